/-
  Walks: code.appendNumber; buffers of bytes.
-/
import Derived.Test.YtcbjoogkodcgkaaDoorCmp
import Derived.Lib.Zigzag
import Derived.Lib.VarintBits
import Derived.Maps.AppendAt
import Derived.Deep.AppendLies
import Derived.Lib.AppendStr
namespace Go.Proofs.YtcbjoogkodcgkaaDoor
open Go.RowKit
set_option maxHeartbeats 400000
set_option maxRecDepth 100000

/-- A byte in a cell. -/
def By (c : UInt8) : Value := .int .u8 c.toNat

/-- The slice at the head of block g, of L bytes, of the call's own from 'base' on, holds bs. -/
def Buf (w : World) (base g L cap : Nat) (bs : List UInt8) : Prop := w.ownsRow base 5 1 (.slice (some ⟨g, 0, none⟩) L cap) L (bs.map By)

theorem Buf.len {w : World} {base g L cap : Nat} {bs : List UInt8} (h : Buf w base g L cap bs) : bs.length = L := by have := h.1; simpa using this

/-- Two steps that write into one row, the second perhaps into a row that the first has made. -/
theorem grownBy_step {w w1 w2 : World} {g g1 : Nat} (h : w.grownBy w1 (some g)) (h1 : w1.grownBy w2 (some g1)) (hg : g1 = g ∨ w.heap.size ≤ g1) : w.grownBy w2 (some g) :=
  ⟨h1.os.trans h.os, h1.tape.trans h.tape, h1.output.trans h.output, Nat.le_trans h.size h1.size, fun k hk hne => by
    rw [h1.block k (Nat.lt_of_lt_of_le hk h.size) (by rcases hg with rfl | hg; exact hne; intro e; cases e; omega)]
    exact h.block k hk hne⟩
theorem grownBy_refl (w : World) (r : Option Nat) : w.grownBy w r := ⟨rfl, rfl, rfl, Nat.le_refl _, fun _ _ _ => rfl⟩
theorem grownBy_drew {w w1 : World} {r : Option Nat} (h : w.grownBy w1 r) : w.grownBy w1.drew r := ⟨h.os, h.tape, h.output, h.size, h.block⟩

theorem grownBy_al {w w1 : World} {r : Option Nat} (h : w.grownBy w1 r) (o : Obj) : w.grownBy (w1.alloc o) r :=
  ⟨h.os, h.tape, h.output, Nat.le_trans h.size (by simp), fun k hk hne => (Below.heap_alloc w1 o k (Nat.lt_of_lt_of_le hk h.size)).trans (h.block k hk hne)⟩

theorem Tryd.info5 : (Tryd.prog.info? 5).map (fun i => (i.zero, i.size, i.bytes)) = some (some (.int .u8 0), 1, 1) := by kernel_rfl

theorem zz_bits (n : Int) (h0 : -9223372036854775808 ≤ n) (h1 : n ≤ 9223372036854775807) :
    bits .xor .u64 (IntKind.u64.wrap (IntKind.u64.wrap n * 2)) (IntKind.u64.wrap (n / 9223372036854775808)) = ((Lib.zigzag n : Nat) : Int) := by
  by_cases hn : 0 ≤ n
  · have e1 : IntKind.u64.wrap (IntKind.u64.wrap n * 2) = ((n * 2).toNat : Int) := by rw [IntKind.wrap_u64, IntKind.wrap_u64]; omega
    have e2 : IntKind.u64.wrap (n / 9223372036854775808) = ((0 : Nat) : Int) := by rw [IntKind.wrap_u64]; omega
    rw [e1, e2, bits_xor_u64_nat _ _ (by omega) (by omega), Nat.xor_zero]
    have := Lib.zigzag_nonneg hn
    omega
  · have e1 : IntKind.u64.wrap (IntKind.u64.wrap n * 2) = (((2 * n + 18446744073709551616).toNat : Nat) : Int) := by
      rw [IntKind.wrap_u64, IntKind.wrap_u64]; omega
    have e2 : IntKind.u64.wrap (n / 9223372036854775808) = ((2 ^ 64 - 1 : Nat) : Int) := by rw [IntKind.wrap_u64]; omega
    rw [e1, e2, bits_xor_u64_nat _ _ (by omega) (by decide), Nat.xor_comm, Lib.xor_ones64 _ (by omega)]
    unfold Lib.zigzag
    rw [if_neg hn]
    omega

theorem By_of (x : Int) (h0 : 0 ≤ x) (h1 : x < 256) : Value.int .u8 x = By x.toNat.toUInt8 := by
  unfold By
  congr 1
  simp [Nat.toUInt8, UInt8.toNat_ofNat']
  omega

/-- 'b = append(b, c)': one byte more. -/
theorem wpList_push (w : World) {ops : Array Oper} {rest : List Oper} {o : Oper} {a : Act} {Q : Exit → Act → World → Prop} (hgd : o.guard = none) (s x : Operand)
    (ho : o.op = .call { callee := .builtin .append, args := #[s, x], argTypes := #[56, 56] })
    (base g L cap : Nat) (bs : List UInt8) (hs : a.eval s = .slice (some ⟨g, 0, none⟩) L cap) (hB : Buf w base g L cap bs)
    (b : Nat) (c : Int) (hx : a.eval x = .slice (some ⟨b, 0, none⟩) 1 1) (hcell : w.cell? ⟨b, 0, none⟩ = some (.int .u8 c)) (hc0 : 0 ≤ c) (hc1 : c < 256) (hL : L ≤ 2000000) (hb : base ≤ w.heap.size)
    (h : ∀ g' cap' w', Buf w' base g' (L + 1) cap' (bs ++ [c.toNat.toUInt8]) → w.grownBy w' (some g) → (g' = g ∨ w.heap.size ≤ g') → wpList Tryd.prog ops Q rest (a.put o.dst (.slice (some ⟨g', 0, none⟩) (L + 1) cap')) w') :
    wpList Tryd.prog ops Q (o :: rest) a w := by
  obtain ⟨i0, hi, hz0, hz1, hz2⟩ := info_parts Tryd.info5
  refine wpList_append_lies w hgd s x 56 ho base 5 i0 (.int .u8 0) 1 1 Tryd.underlying56 hi hz0 hz1 hz2 rfl (by decide) _ L (bs.map By) hs hB ⟨b, 0, none⟩ 1 1 [.int .u8 c] hx rfl ?_ ?_ (by decide) ?_ ?_ hb _ rfl ?_
  · intro j u hj
    match j, hj with
    | 0, hj => simp at hj; subst hj; simpa [Addr.add] using hcell
    | j + 1, hj => simp at hj
  · intro u hu; simp at hu; subst hu; rfl
  · unfold maxLen; omega
  · omega
  · intro g' cap' w' h1 h2 h3 h4
    refine h g' cap' w' ?_ h2 ?_
    · unfold Buf
      rw [List.map_append, List.map_cons, List.map_nil, ← By_of c hc0 hc1]
      exact h1
    · rcases h3 with h3 | h3
      · simp [Value.ownBlock] at h3; exact .inl h3.symm
      · exact .inr (by omega)

/-- The same at a step of a region that draws its order. -/
theorem step_push (w : World) {ops : Array Oper} {o : Oper} {a : Act} {K : Act → World → Prop} {Q : Exit → Act → World → Prop} {E : Prop} (hgd : o.guard = none) (s x : Operand)
    (ho : o.op = .call { callee := .builtin .append, args := #[s, x], argTypes := #[56, 56] })
    (base g L cap : Nat) (bs : List UInt8) (hs : a.eval s = .slice (some ⟨g, 0, none⟩) L cap) (hB : Buf w base g L cap bs)
    (b : Nat) (c : Int) (hx : a.eval x = .slice (some ⟨b, 0, none⟩) 1 1) (hcell : w.cell? ⟨b, 0, none⟩ = some (.int .u8 c)) (hc0 : 0 ≤ c) (hc1 : c < 256) (hL : L ≤ 2000000) (hb : base ≤ w.heap.size)
    (h : ∀ g' cap' w', Buf w' base g' (L + 1) cap' (bs ++ [c.toNat.toUInt8]) → w.grownBy w' (some g) → (g' = g ∨ w.heap.size ≤ g') → K (a.put o.dst (.slice (some ⟨g', 0, none⟩) (L + 1) cap')) w') :
    if Region.wanted o (yielded ops a.tmps) = true then Oper.wp Tryd.prog o a w K Q else E := by
  obtain ⟨i0, hi, hz0, hz1, hz2⟩ := info_parts Tryd.info5
  refine step_append_lies w hgd s x 56 ho base 5 i0 (.int .u8 0) 1 1 Tryd.underlying56 hi hz0 hz1 hz2 rfl (by decide) _ L (bs.map By) hs hB ⟨b, 0, none⟩ 1 1 [.int .u8 c] hx rfl ?_ ?_ (by decide) ?_ ?_ hb _ rfl ?_
  · intro j u hj
    match j, hj with
    | 0, hj => simp at hj; subst hj; simpa [Addr.add] using hcell
    | j + 1, hj => simp at hj
  · intro u hu; simp at hu; subst hu; rfl
  · unfold maxLen; omega
  · omega
  · intro g' cap' w' h1 h2 h3 h4
    refine h g' cap' w' ?_ h2 ?_
    · unfold Buf
      rw [List.map_append, List.map_cons, List.map_nil, ← By_of c hc0 hc1]
      exact h1
    · rcases h3 with h3 | h3
      · simp [Value.ownBlock] at h3; exact .inl h3.symm
      · exact .inr (by omega)

theorem strCells_By (s : ByteArray) : Lib.strCells s = s.data.toList.map By := by
  simp [Lib.strCells, By]

/-- 'append(b, s...)', s a string. -/
theorem run_pushStr (w : World) (ty : TypeId) (base g L cap : Nat) (bs : List UInt8) (hB : Buf w base g L cap bs) (s : ByteArray) (hL : L + s.size ≤ 2000000) (hb : base ≤ w.heap.size) :
    ∃ g' cap' w', (Builtin.append_ #[56, 9] ty #[.slice (some ⟨g, 0, none⟩) L cap, .string s]).run Tryd.prog w = .ok (.slice (some ⟨g', 0, none⟩) (L + s.size) cap') w' ∧
      Buf w' base g' (L + s.size) cap' (bs ++ s.data.toList) ∧ w.grownBy w' (some g) ∧ (g' = g ∨ w.heap.size ≤ g') := by
  obtain ⟨i0, hi, hz0, hz1, hz2⟩ := info_parts Tryd.info5
  obtain ⟨v', w', hr, h2, h3, _⟩ := Lib.run_append_own_string (P := Tryd.prog) w base 56 9 ty 5 i0 Tryd.underlying56 Tryd.underlying9 hi hz0 hz1 hz2 _ L _ hB s (by unfold maxLen; omega) (by omega) hb
  have h2' : w'.ownsRow base 5 1 v' (L + s.size) ((bs ++ s.data.toList).map By) := by
    rw [List.map_append, ← strCells_By]; exact h2
  rcases hB.2 with ⟨h0, _⟩ | ⟨g1, cap1, cur, he, hbg, hg, hnc, hcm, hcs, htake⟩
  · cases h0
  · cases he
    by_cases hroom : L + s.size ≤ cap
    · have hr2 := Lib.run_append_room_string (P := Tryd.prog) w 56 9 ty 5 i0 Tryd.underlying56 Tryd.underlying9 hi hz1 g L cap cur hg s hroom (by omega)
      rw [hr] at hr2
      obtain ⟨hv, hw⟩ : v' = _ ∧ w' = _ := by injection hr2 with a b; exact ⟨a, b⟩
      subst hv
      exact ⟨g, cap, w', hr, h2', h3, .inl rfl⟩
    · have holds : ∀ j u, (bs.map By)[j]? = some u → w.cell? ((⟨g, 0, none⟩ : Addr).add j) = some u := World.ownsRow.cells hB (g := g) rfl
      have hr2 := Lib.run_append_grow_string (P := Tryd.prog) w 56 9 ty 5 i0 (.int .u8 0) Tryd.underlying56 Tryd.underlying9 hi hz0 ⟨g, 0, none⟩ L cap (bs.map By) (by rw [hz1]; exact hB.1) holds s (by omega) (by omega) (by rw [hz2]; exact growslice_fits (by omega) (by omega))
      rw [hr] at hr2
      obtain ⟨hv, hw⟩ : v' = _ ∧ w' = _ := by injection hr2 with a b; exact ⟨a, b⟩
      subst hv
      exact ⟨_, _, w', hr, h2', h3, .inr (Nat.le_refl _)⟩
theorem step_pushStr (w : World) {ops : Array Oper} {o : Oper} {a : Act} {K : Act → World → Prop} {Q : Exit → Act → World → Prop} {E : Prop} (hgd : o.guard = none) (sl x : Operand)
    (ho : o.op = .call { callee := .builtin .append, args := #[sl, x], argTypes := #[56, 9] })
    (base g L cap : Nat) (bs : List UInt8) (hs : a.eval sl = .slice (some ⟨g, 0, none⟩) L cap) (hB : Buf w base g L cap bs) (s : ByteArray) (hx : a.eval x = .string s)
    (hL : L + s.size ≤ 2000000) (hb : base ≤ w.heap.size)
    (h : ∀ g' cap' w', Buf w' base g' (L + s.size) cap' (bs ++ s.data.toList) → w.grownBy w' (some g) → (g' = g ∨ w.heap.size ≤ g') → K (a.put o.dst (.slice (some ⟨g', 0, none⟩) (L + s.size) cap')) w') :
    if Region.wanted o (yielded ops a.tmps) = true then Oper.wp Tryd.prog o a w K Q else E := by
  have hw : Region.wanted o (yielded ops a.tmps) = true := by simp [Region.wanted, hgd]
  rw [if_pos hw]
  obtain ⟨g', cap', w', hr, h2, h3, h4⟩ := run_pushStr w o.type base g L cap bs hB s hL hb
  unfold Oper.wp execOp
  simp only [ho, resolve, invoke, builtin, Sem.run_bind, Sem.run_pure, Result.andThen_ok, List.map_toArray, List.map_cons, List.map_nil, hs, hx, hr]
  exact h g' cap' w' h2 h3 h4

theorem appendNumber_any (base g0 L0 cap0 : Nat) (bs : List UInt8) (n : Int) (h0 : -9223372036854775808 ≤ n) (h1 : n ≤ 9223372036854775807) (w : World) (hown : Buf w base g0 L0 cap0 bs) (hL : L0 ≤ 1000000) (hb : base ≤ w.heap.size) :
    Calls Tryd.prog 39 #[.slice (some ⟨g0, 0, none⟩) L0 cap0, .int .i64 n] w fun e w' => ∃ g L cap, e = .returned (.slice (some ⟨g, 0, none⟩) L cap) ∧ Buf w' base g L cap (bs ++ Lib.uvarint (Lib.zigzag n)) ∧ w.grownBy w' (some g0) ∧ (g = g0 ∨ w.heap.size ≤ g) := by
  have hz := zz_bits n h0 h1
  have hzl := Lib.zigzag_lt h0 h1
  have HZ : Hid ((Lib.uvarint (Lib.zigzag n)).length ≤ 10) := Lib.uvarint_length64 hzl
  obtain ⟨z, hzz⟩ : ∃ z, Lib.zigzag n = z := ⟨_, rfl⟩
  rw [hzz] at hz hzl HZ ⊢
  clear hzz
  have HZL : Hid (z < 18446744073709551616) := hzl
  have HL : Hid (L0 ≤ 1000000) := hL
  clear hzl hL h0 h1
  go_enter Tryd.func39, Tryd.ntmps39
  go_wp2
  go_loopw [0, 5] (fun v u wr => ∃ (g L cap : Nat) (bs' : List UInt8) (x : Nat), v = .slice (some ⟨g, 0, none⟩) L cap ∧ u = .int .u64 x ∧ x < 18446744073709551616 ∧ Buf wr base g L cap bs' ∧ bs' ++ Lib.uvarint x = bs ++ Lib.uvarint z ∧ w.grownBy wr (some g0) ∧ (g = g0 ∨ w.heap.size ≤ g)) (fun _ u _ => (intOf u).toNat)
  case atStart => exact ⟨g0, L0, cap0, bs, z, rfl, rfl, HZL.out, hown, rfl, grownBy_refl _ _, .inl rfl⟩
  case round =>
    obtain ⟨g, L, cap, bs', x, rfl, rfl, hx, hB, hbs, hgr, hloc⟩ := hrel
    have HBS : Hid (bs' ++ Lib.uvarint x = bs ++ Lib.uvarint z) := hbs
    clear hbs hz
    have hsz := hgr.size
    have HX : Hid (x < 18446744073709551616) := hx
    clear hx
    have hlen : Hid (L ≤ 1000010) := by
      show L ≤ 1000010
      have e0 := HL.out
      have e1 := hB.len; have e2 := hown.len; have e3 := congrArg List.length HBS.out
      simp only [List.length_append] at e3
      have := HZ.out
      omega
    by_cases hlt : x < 128
    · go_wp2_with (first
        | (at_builtin; refine wpList_push _ rfl (.tmp 23) (.tmp 26) rfl base g L cap bs' rfl (World.ownsRow.alloc hB _) wr.heap.size (x : Int) rfl ?_ ?_ ?_ ?_ ?_ ?_))
      · simp [go_sem]
      · omega
      · omega
      · have := hlen.out; omega
      · simp; omega
      · intro g' cap' w' hB' hgr' hloc'
        go_wp2
        go_ret
        refine ⟨g', L + 1, cap', rfl, ?_, grownBy_step hgr (grownBy_step (World.grownBy_alloc wr _ _) hgr' (.inl rfl)) hloc, ?_⟩
        · have e := HBS.out
          rw [Lib.uvarint_small hlt] at e
          rw [← e]
          exact hB'
        · rcases hloc' with rfl | h
          · exact hloc
          · right; have h2 := World.size_alloc wr; first | omega | (simp at h; omega)
    · have hor : bits .or .u8 ((x : Int) % 256) 128 = (x : Int) % 128 + 128 := by
        rw [Lib.u8_or128_any _ (by omega) (by omega)]; omega
      go_wp2_with (first
        | (at_builtin; refine wpList_push _ rfl (.tmp 15) (.tmp 19) rfl base g L cap bs' rfl (World.ownsRow.alloc hB _) wr.heap.size ((x : Int) % 128 + 128) rfl ?_ ?_ ?_ ?_ ?_ ?_))
      · simp [go_sem]
      · omega
      · omega
      · have := hlen.out; omega
      · simp; omega
      · intro g' cap' w' hB' hgr' hloc'
        have R : Hid (∃ (g L2 cap : Nat) (bs' : List UInt8) (y : Nat), Value.slice (some ⟨g', 0, none⟩) (L + 1) cap' = .slice (some ⟨g, 0, none⟩) L2 cap ∧ Value.int .u64 ((x : Int) / 128) = .int .u64 y ∧ y < 18446744073709551616 ∧ Buf w' base g L2 cap bs' ∧ bs' ++ Lib.uvarint y = bs ++ Lib.uvarint z ∧ w.grownBy w' (some g0) ∧ (g = g0 ∨ w.heap.size ≤ g)) := by
          refine ⟨g', L + 1, cap', bs' ++ [((x : Int) % 128 + 128).toNat.toUInt8], x / 128, rfl, by congr 1, by have := HX.out; omega, hB', ?_, grownBy_step hgr (grownBy_step (World.grownBy_alloc wr _ _) hgr' (.inl rfl)) hloc, ?_⟩
          · have e := HBS.out
            rw [Lib.uvarint_big (by omega)] at e
            rw [← e, List.append_assoc]
            congr 3
          · rcases hloc' with rfl | h
            · exact hloc
            · right; have h2 := World.size_alloc wr; first | omega | (simp at h; omega)
        go_wp2
        go_roundw
        case rel => exact R.out
        case measure => simp [intOf]; omega
end Go.Proofs.YtcbjoogkodcgkaaDoor
