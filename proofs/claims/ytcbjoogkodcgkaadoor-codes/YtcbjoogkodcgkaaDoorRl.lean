/-
  Walks: reader.list.
-/
import Derived.Test.YtcbjoogkodcgkaaDoorRd5
namespace Go.Proofs.YtcbjoogkodcgkaaDoor
open Go.RowKit
set_option maxHeartbeats 1000000
set_option maxRecDepth 100000

theorem entry_any (rb : Nat) (sh : R) (s : Int) (hs0 : 0 ≤ s) (hs1 : s < 80) (l : List UInt8) (w : World) (h : Rd w rb l) (hS : Sents w) (hrb : 8 ≤ rb) :
    Calls Tryd.prog 45 #[.pointer (some ⟨rb, 0, none⟩), sh.val, .int .u8 s] w fun e w' =>
      Got 1 (rEntry sh s l) (fun v => ∃ x : E, v = x.val) E.val rb e w' ∧ w.grownBy w' (some rb) := by
  by_cases hs : s = 0
  · subst hs; exact entry_mixed rb sh l w h hS hrb
  · exact entry_shaped rb sh s hs hs0 hs1 l w h hS hrb

/-- A slice of entries of the call's own. -/
def EBuf (w : World) (base : Nat) (v : Value) (es : List E) : Prop := w.ownsRow base 38 14 v es.length (es.flatMap E.cells)
theorem Tryd.infoE : (Tryd.prog.info? 38).map (fun i => (i.zero.map (fun z => z.cells.size), i.size, i.bytes)) = some (some 14, 14, 144) := by kernel_rfl
theorem infoE_parts : ∃ (i : TypeInfo) (z : Value), Tryd.prog.info? 38 = some i ∧ i.zero = some z ∧ z.cells.size = 14 ∧ i.size = 14 ∧ i.bytes = 144 := by
  have h := Tryd.infoE
  cases hi : Tryd.prog.info? 38 with
  | none => rw [hi] at h; cases h
  | some i =>
    rw [hi] at h
    simp only [Option.map_some, Option.some.injEq, Prod.mk.injEq] at h
    obtain ⟨h1, h2, h3⟩ := h
    cases hz : i.zero with
    | none => rw [hz] at h1; cases h1
    | some z => rw [hz] at h1; exact ⟨i, z, rfl, hz, by simpa using h1, h2, h3⟩

theorem wpList_pushE (w : World) {ops : Array Oper} {rest : List Oper} {o : Oper} {a : Act} {Q : Exit → Act → World → Prop} (hgd : o.guard = none) (s x : Operand)
    (ho : o.op = .call { callee := .builtin .append, args := #[s, x], argTypes := #[22, 22] })
    (base : Nat) (v : Value) (n : Nat) (es : List E) (hn : es.length = n) (hs : a.eval s = v) (hB : EBuf w base v es)
    (b t : Nat) (e : E) (hx : a.eval x = .slice (some ⟨b, 0, none⟩) 1 1) (hblk : w.heap[b]? = some (.cells e.cells.toArray t (0, 0))) (hL : n ≤ 1000) (hb : base ≤ w.heap.size)
    (h : ∀ g' cap' w', EBuf w' base (.slice (some ⟨g', 0, none⟩) (n + 1) cap') (es ++ [e]) → w.grownBy w' v.ownBlock → g' < w'.heap.size → wpList Tryd.prog ops Q rest (a.put o.dst (.slice (some ⟨g', 0, none⟩) (n + 1) cap')) w') :
    wpList Tryd.prog ops Q (o :: rest) a w := by
  obtain ⟨i0, z, hi, hz0, hzs, hz1, hz2⟩ := infoE_parts
  subst hn
  refine wpList_append_lies w hgd s x 22 ho base 38 i0 z 14 144 Tryd.underlying22 hi hz0 hz1 hz2 hzs (by decide) _ es.length (es.flatMap E.cells) hs hB ⟨b, 0, none⟩ 1 1 e.cells hx rfl ?_ ?_ (by decide) ?_ ?_ hb _ rfl ?_
  · intro j u hj
    have ha : (⟨b, 0, none⟩ : Addr).add j = ⟨b, j, none⟩ := by unfold Addr.add; split <;> simp_all
    rw [ha, (block_facts hblk).1 j]
    simpa using hj
  · intro u hu
    simp only [E.cells, R.cells, V.cells, List.cons_append, List.nil_append, List.mem_cons, List.not_mem_nil, or_false] at hu
    rcases hu with h | h | h | h | h | h | h | h | h | h | h | h | h | h <;> subst h <;> rfl
  · unfold maxLen; omega
  · omega
  · intro g' cap' w' h1 h2 h3 h4
    refine h g' cap' w' ?_ h2 h4
    unfold EBuf
    rw [List.flatMap_append, List.length_append]
    simpa using h1

theorem grownBy_new {w w1 w2 : World} {p : Nat} {r : Option Nat} (h : w.grownBy w1 (some p)) (h1 : w1.grownBy w2 r) (hr : ∀ g, r = some g → w.heap.size ≤ g) : w.grownBy w2 (some p) :=
  ⟨h1.os.trans h.os, h1.tape.trans h.tape, h1.output.trans h.output, Nat.le_trans h.size h1.size, fun k hk hne => (h1.block k (Nat.lt_of_lt_of_le hk h.size) (fun e => by have := hr k e.symm; omega)).trans (h.block k hk hne)⟩

/-- Reading n entries. -/
def rEnts (sh : R) (s : Int) : Nat → List UInt8 → Option (List E)
  | 0, _ => some []
  | n + 1, l => (match rEntry sh s l with | none => none | some (e, l') => (rEnts sh s n l').map (fun es => e :: es))
def zeroR (w : Int) : R := ⟨w, zeroV, zeroV, zeroV, zeroV⟩
/-- Reading a list. -/
def rList : List UInt8 → Option (List E)
  | [] => none
  | c :: l => if c.toNat = 0 then some [] else
    (match l with
    | [] => none
    | s :: l1 => if 4 < s.toNat / 16 then none else
      (match rCells s.toNat true (s.toNat / 16) 0 (zeroR (s.toNat / 16 : Nat)) l1 with
      | none => none
      | some (sh, l2) => rEnts sh s.toNat c.toNat l2))
/-- What list answers. -/
def GotL (o : Option (List E)) (base : Nat) (e : Ending) (w' : World) : Prop :=
  match o with
  | none => ∃ t x, e = .returned (.tuple #[.slice none 0 0, .iface t x]) ∧ Bd w' 0 2 (.iface t x)
  | some es => ∃ v, e = .returned (.tuple #[v, .nilIface]) ∧ EBuf w' base v es

theorem GotL.bad {o : Option (List E)} (h : o = none) {base : Nat} {w' : World} (t : Nat) (x : Value) (hb : Bd w' 0 2 (.iface t x)) : GotL o base (.returned (.tuple #[.slice none 0 0, .iface t x])) w' := by
  subst h; exact ⟨t, x, rfl, hb⟩
theorem GotL.good {o : Option (List E)} {es : List E} (h : o = some es) {base : Nat} {w' : World} {v : Value} (hb : EBuf w' base v es) : GotL o base (.returned (.tuple #[v, .nilIface])) w' := by
  subst h; exact ⟨v, rfl, hb⟩
theorem EBuf.nil (w : World) (base : Nat) : EBuf w base (.slice none 0 0) [] := World.ownsRow_nil w base _ _
theorem EBuf.kept {w w' : World} {base : Nat} {v : Value} {es : List E} {p : Nat} (h : EBuf w base v es) (hg : w.grownBy w' (some p)) (hp : p < base) : EBuf w' base v es := by
  refine World.ownsRow.kept h hg ?_
  cases hv : v.ownBlock with
  | none => exact .inl rfl
  | some g => right; have := (World.ownsRow.lt h g hv).1; simp; omega
theorem EBuf.al {w : World} {base : Nat} {v : Value} {es : List E} (h : EBuf w base v es) (o : Obj) : EBuf (w.alloc o) base v es := World.ownsRow.alloc h o

theorem EBuf.mono {w : World} {base base' : Nat} {v : Value} {es : List E} (h : EBuf w base' v es) (hb : base ≤ base') : EBuf w base v es := by
  refine ⟨h.1, ?_⟩
  rcases h.2 with h2 | ⟨g, cap, cur, hv, hg, r⟩
  · exact .inl h2
  · exact .inr ⟨g, cap, cur, hv, by omega, r⟩
theorem EBuf.own {w : World} {base : Nat} {v : Value} {es : List E} (h : EBuf w base v es) : ∀ g, v.ownBlock = some g → base ≤ g := fun g hg => (World.ownsRow.lt h g hg).1

theorem list_nil (rb : Nat) (w : World) (h : Rd w rb []) (hS : Sents w) :
    Calls Tryd.prog 26 #[.pointer (some ⟨rb, 0, none⟩)] w fun e w' => GotL (rList []) w.heap.size e w' ∧ w.grownBy w' (some rb) := by
  go_enter Tryd.func26, Tryd.ntmps26
  go_wp2_with fail
  refine (next_nil rb _ h hS.e1).mono ?_
  rintro e w1 ⟨⟨t, x, rfl, hl⟩, hg1⟩
  have HLf : Hid (Lf (.iface t x)) := hl
  clear hl
  go_wp2
  go_ret2
  exact ⟨GotL.bad rfl t x (HLf.out.bd _ _ _), hg1⟩

theorem list_cons (rb : Nat) (c : UInt8) (l : List UInt8) (w : World) (h : Rd w rb (c :: l)) (hS : Sents w) (hrb : 8 ≤ rb) :
    Calls Tryd.prog 26 #[.pointer (some ⟨rb, 0, none⟩)] w fun e w' => GotL (rList (c :: l)) w.heap.size e w' ∧ w.grownBy w' (some rb) := by
  have hrl := h.lt
  have hcl := c.toNat_lt
  have hci : (c.toNat : Int) < 256 := by omega
  by_cases hc0 : c.toNat = 0
  · have HB : Hid (rList (c :: l) = some []) := by show _ = _; simp only [rList, if_pos hc0]
    have hq : ((c.toNat : Int) == 0) = true := by simpa using hc0
    clear hc0
    go_enter Tryd.func26, Tryd.ntmps26
    go_wp2_with fail
    refine (next_cons rb c l _ h).mono ?_
    rintro e w1 ⟨rfl, hR1, hg1⟩
    go_wp2
    go_ret2
    exact ⟨GotL.good HB.out (EBuf.nil _ _), hg1⟩
  have hq : ((c.toNat : Int) == 0) = false := by simpa using hc0
  cases l with
  | nil =>
    have HB : Hid (rList [c] = none) := by show _ = _; simp only [rList, if_neg hc0]
    clear hc0
    go_enter Tryd.func26, Tryd.ntmps26
    go_wp2_with fail
    refine (next_cons rb c [] _ h).mono ?_
    rintro e w1 ⟨rfl, hR1, hg1⟩
    go_wp2_with fail
    refine (next_nil rb _ hR1 (hS.kept hg1 hrb).e1).mono ?_
    rintro e w2 ⟨⟨t, x, rfl, hl⟩, hg2⟩
    have HLf : Hid (Lf (.iface t x)) := hl
    clear hl
    go_wp2
    go_ret2
    exact ⟨GotL.bad HB.out t x (HLf.out.bd _ _ _), grownBy_step hg1 hg2 (.inl rfl)⟩
  | cons s l1 =>
    have hsl := s.toNat_lt
    have hs0 : (0 : Int) ≤ s.toNat := by omega
    have hs256 : (s.toNat : Int) < 256 := by omega
    by_cases h4 : 4 < s.toNat / 16
    · have HB : Hid (rList (c :: s :: l1) = none) := by show _ = _; simp only [rList, if_neg hc0, if_pos h4]
      have h4i : (4 : Int) < (s.toNat : Int) / 16 := by omega
      clear hc0
      go_enter Tryd.func26, Tryd.ntmps26
      go_wp2_with fail
      refine (next_cons rb c (s :: l1) _ h).mono ?_
      rintro e w1 ⟨rfl, hR1, hg1⟩
      go_wp2_with fail
      refine (next_cons rb s l1 _ hR1).mono ?_
      rintro e w2 ⟨rfl, hR2, hg2⟩
      have hG2 : w.grownBy w2 (some rb) := grownBy_step hg1 hg2 (.inl rfl)
      go_wp2_with fail
      refine (width_any s.toNat hs0 hs256 _).mono ?_
      rintro e w2 ⟨rfl, rfl⟩
      go_wp2_with fail
      refine (width_any s.toNat hs0 hs256 _).mono ?_
      rintro e w2 ⟨rfl, rfl⟩
      go_wp2_with fail
      refine (at_any _ _ _ _ _).mono ?_
      rintro e w3 ⟨rfl, rfl⟩
      go_wp2
      go_ret2
      exact ⟨GotL.bad HB.out _ _ (Bd.mono (Nat.zero_le 0) (by decide) (Bd.at (k := 0) (Lf.bd (Lf.num (by decide)) _ _ _) (by first | rfl | simp) (Nat.zero_le _))), grownBy_al hG2 _⟩
    · have h4i : (s.toNat : Int) / 16 ≤ 4 := by omega
      have hs80 : (s.toNat : Int) < 80 := by omega
      have hm : ((s.toNat : Int) / 16).toNat = s.toNat / 16 := by omega
      have HL : Hid (rList (c :: s :: l1) = (match rCells s.toNat true (s.toNat / 16) 0 (zeroR (s.toNat / 16 : Nat)) l1 with
          | none => none
          | some (sh, l2) => rEnts sh s.toNat c.toNat l2)) := by show _ = _; simp only [rList, if_neg hc0, if_neg h4]
      have hc1 : 1 ≤ c.toNat := by omega
      clear hc0 h4
      go_enter Tryd.func26, Tryd.ntmps26
      go_wp2_with fail
      refine (next_cons rb c (s :: l1) _ h).mono ?_
      rintro e w1 ⟨rfl, hR1, hg1⟩
      go_wp2_with fail
      refine (next_cons rb s l1 _ hR1).mono ?_
      rintro e w2 ⟨rfl, hR2, hg2⟩
      have hG2 : w.grownBy w2 (some rb) := grownBy_step hg1 hg2 (.inl rfl)
      have hS2 : Sents w2 := hS.kept hG2 hrb
      clear hR1 hg1 hg2
      go_wp2_with fail
      refine (width_any s.toNat hs0 hs256 _).mono ?_
      rintro e w2 ⟨rfl, rfl⟩
      go_wp2_with fail
      refine (width_any s.toNat hs0 hs256 _).mono ?_
      rintro e w2 ⟨rfl, rfl⟩
      have hz2 := hG2.size
      go_wp2_with fail
      refine (cells_any rb w2.heap.size 36 (zeroR ((s.toNat : Int) / 16)) [] s.toNat hs0 hs80 true l1 _ (hR2.al _) ?_ (hS2.kept (rb := rb) (World.grownBy_alloc w2 _ _) hrb) hrb (by omega) (by omega)).mono ?_
      · exact (heap_alloc_new _ _).trans rfl
      rintro e w3 ⟨hgot, hT⟩
      have hG3 : w.grownBy w3 (some rb) := grownBy_of_two (grownBy_al hG2 _) hT (by omega)
      rw [hm] at hgot
      have hzr : zeroR ((s.toNat : Int) / 16) = zeroR (s.toNat / 16 : Nat) := by simp
      rw [hzr] at hgot
      have hsz3 : w2.heap.size + 1 ≤ w3.heap.size := by have := hT.size; simpa using this
      clear hT hm hzr
      cases hcl2 : rCells s.toNat true (s.toNat / 16) 0 (zeroR (s.toNat / 16 : Nat)) l1 with
      | none =>
        rw [hcl2] at hgot HL
        obtain ⟨⟨t, x, rfl, hbd⟩, _⟩ := hgot
        have HBd : Hid (Bd w3 0 2 (.iface t x)) := hbd.mono (Nat.zero_le _) (by decide)
        clear hbd
        go_wp2
        go_ret2
        exact ⟨GotL.bad HL.out t x HBd.out, hG3⟩
      | some p =>
        obtain ⟨sh, l2⟩ := p
        rw [hcl2] at hgot HL
        obtain ⟨rfl, hR3, hP3⟩ := hgot
        have HL2 : Hid (rList (c :: s :: l1) = rEnts sh s.toNat c.toNat l2) := HL.out
        clear hcl2 HL
        obtain ⟨N, hN⟩ : ∃ N, c.toNat = N := ⟨_, rfl⟩
        obtain ⟨B, hB⟩ : ∃ B, w2.heap.size = B := ⟨_, rfl⟩
        have hBw : w.heap.size ≤ B := by omega
        have hB3 : B + 1 ≤ w3.heap.size := by omega
        have hrB : rb < B := by omega
        rw [hB] at hP3
        rw [hN] at HL2
        have hN256 : N < 256 := by omega
        clear hR2 hS2 hz2 hsz3 hG2
        go_wp2
        go_loopw [10, 53] (fun v i wr => ∃ (k : Nat) (es : List E) (lr : List UInt8), i = .int .i64 k ∧ k ≤ N ∧ es.length = k ∧ EBuf wr (B + 1) v es ∧ rList (c :: s :: l1) = (rEnts sh s.toNat (N - k) lr).map (fun r => es ++ r) ∧ Rd wr rb lr ∧ RowBlk wr B 36 sh [] ∧ w.grownBy wr (some rb) ∧ B + 1 ≤ wr.heap.size) (fun _ i _ => N - (intOf i).toNat)
        case atStart =>
          refine ⟨0, [], l2, rfl, Nat.zero_le _, rfl, EBuf.nil _ _, ?_, hR3, hP3, hG3, hB3⟩
          rw [HL2.out]; simp
        case round =>
          clear hR3 hP3 hG3 hB3 HL2
          obtain ⟨k, es, lr, rfl, hk, hes, hE, hres, hR, hP, hG, hsz⟩ := hrel
          have HES : Hid (es.length = k) := hes
          have HRES : Hid (rList (c :: s :: l1) = (rEnts sh s.toNat (N - k) lr).map (fun r => es ++ r)) := hres
          clear hes hres
          have hSr : Sents wr := hS.kept hG hrb
          have hwz := hG.size
          by_cases hlt : k < N
          · have hki : (k : Int) < N := by omega
            obtain ⟨pc, pf⟩ := hP.facts
            have q0 := pc 0
            have q1 := pc 1
            have q2 := pc 2
            have q3 := pc 3
            have q4 := pc 4
            have q5 := pc 5
            have q6 := pc 6
            have q7 := pc 7
            have q8 := pc 8
            have q9 := pc 9
            have q10 := pc 10
            have q11 := pc 11
            have q12 := pc 12
            simp [R.cells, V.cells] at q0 q1 q2 q3 q4 q5 q6 q7 q8 q9 q10 q11 q12
            clear pc pf
            go_wp2_with fail
            refine (entry_any rb sh s.toNat hs0 hs80 lr _ hR hSr hrb).mono ?_
            rintro ev w4 ⟨hgot, hg4⟩
            have hG4 : w.grownBy w4 (some rb) := grownBy_step hG hg4 (.inl rfl)
            have hE4 : EBuf w4 (B + 1) u10 es := hE.kept hg4 (by omega)
            have hP4 : RowBlk w4 B 36 sh [] := (hg4.block B (by omega) (by simp; omega)).trans hP
            have hsz4 : B + 1 ≤ w4.heap.size := Nat.le_trans hsz hg4.size
            cases he : rEntry sh s.toNat lr with
            | none =>
              have HB : Hid (rList (c :: s :: l1) = none) := by
                show _ = _
                rw [HRES.out, show N - k = (N - (k + 1)) + 1 from by omega]
                simp only [rEnts, he]
                rfl
              rw [he] at hgot
              obtain ⟨v1, t, x, ⟨e1, rfl⟩, rfl, hbd⟩ := hgot
              have HBd : Hid (Bd w4 0 1 (.iface t x)) := hbd
              clear hbd
              go_wp2_with fail
              refine (at_any _ _ t x _).mono ?_
              rintro ev w5 ⟨rfl, rfl⟩
              go_wp2
              go_ret2
              exact ⟨GotL.bad HB.out _ _ (Bd.at (HBd.out.al _) (by first | rfl | simp) (Nat.zero_le _)), grownBy_al (grownBy_al hG4 _) _⟩
            | some p =>
              obtain ⟨e1, l3⟩ := p
              have HB : Hid (rList (c :: s :: l1) = (rEnts sh s.toNat (N - (k + 1)) l3).map (fun r => (es ++ [e1]) ++ r)) := by
                show _ = _
                rw [HRES.out, show N - k = (N - (k + 1)) + 1 from by omega]
                simp only [rEnts, he]
                cases rEnts sh s.toNat (N - (k + 1)) l3 <;> simp
              rw [he] at hgot
              obtain ⟨rfl, hR4⟩ := hgot
              have hE5 : ∀ o1 o2, EBuf ((w4.alloc o1).alloc o2) (B + 1) u10 es := fun o1 o2 => (hE4.al o1).al o2
              go_wp2_with (first
                | (at_builtin; refine wpList_pushE _ rfl (.tmp 68) (.tmp 70) rfl (B + 1) u10 k es HES.out rfl (hE5 _ _) (w4.heap.size + 1) 38 e1 rfl ((heap_new_at _ _ _ (by simp)).trans rfl) (by omega) (by simp; omega) ?_; intro g6 cap6 w6 hE6 hg6 hlt6))
              have G6 : w.grownBy w6 (some rb) := grownBy_new (grownBy_al (grownBy_al hG4 _) _) hg6 (fun g hg => by have := hE4.own g hg; omega)
              have hR6 : Rd w6 rb l3 := by
                have hlt4 := hR4.lt
                refine (hg6.block rb (by simp; omega) (fun h => ?_)).trans ((hR4.al _).al _)
                have := hE4.own rb h.symm
                omega
              have hP6 : RowBlk w6 B 36 sh [] := by
                refine (hg6.block B (by simp; omega) (fun h => ?_)).trans ((hP4.al _).al _)
                have := hE4.own B h.symm
                omega
              have hsz6 : B + 1 ≤ w6.heap.size := by have := hg6.size; simp at this; omega
              go_wp2
              go_roundw
              case rel => exact ⟨k + 1, es ++ [e1], l3, by go_num, by omega, by simp [HES.out], hE6, HB.out, hR6, hP6, G6, hsz6⟩
              case measure => simp [intOf]; omega
          · have hkN : (N : Int) ≤ k := by omega
            have HB : Hid (rList (c :: s :: l1) = some es) := by
              show _ = _
              rw [HRES.out, show N - k = 0 from by omega]
              simp [rEnts]
            go_wp2
            go_ret2
            exact ⟨GotL.good HB.out (hE.mono (by omega)), hG⟩
end Go.Proofs.YtcbjoogkodcgkaaDoor
