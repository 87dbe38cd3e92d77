/-
  Walks: code.Write.
-/
import Derived.Test.YtcbjoogkodcgkaaDoorChk3
import Derived.Test.YtcbjoogkodcgkaaDoorRef
import Derived.Test.YtcbjoogkodcgkaaDoorRd
import Derived.Laws.BytesArg
namespace Go.Proofs.YtcbjoogkodcgkaaDoor
open Go.RowKit
set_option maxHeartbeats 1000000
set_option maxRecDepth 100000

/-- What a list in order is written as. -/
def enc (l : List E) : List UInt8 :=
  match l with
  | [] => [0]
  | e :: _ => l.length.toUInt8 :: encL (shapeL l e.r) e.r l

theorem check_all (v : Value) (l : List E) (w : World) (h : Sl w v l) (hn : l.length ≤ 1000000000000) :
    Calls Tryd.prog 21 #[v, .int .i64 128] w fun e w' => Err w' (chk l) e ∧ Below w.heap.size w w' := by
  rcases h with ⟨a, cap, rfl, rfl⟩ | ⟨b, o, cap, rfl, hl, h0⟩
  · refine (check_nil a cap w).mono ?_
    rintro e w' ⟨rfl, hB⟩
    exact ⟨.inl ⟨rfl, rfl⟩, hB⟩
  · exact check_cons l b o cap w hl h0 hn

theorem okRow_parts {r : R} (h : okRow r = true) : 1 ≤ r.w ∧ r.w ≤ 4 ∧ ∀ i, i < 4 → okV (r.at i) = true := by
  simp only [okRow, Bool.and_eq_true, decide_eq_true_eq] at h
  obtain ⟨h1, h4, c0, c1, c2, c3⟩ := h
  have hk : ∀ i, okCell r i = true → okV (r.at i) = true := by
    intro i hc
    unfold okCell at hc
    split at hc
    · exact hc
    · rw [eqV_zero, Bool.and_eq_true] at hc
      exact hc.1
  refine ⟨h1, h4, ?_⟩
  intro i hi
  rcases lt4 hi with rfl | rfl | rfl | rfl
  · exact hk 0 c0
  · exact hk 1 c1
  · exact hk 2 c2
  · exact hk 3 c3

/-- The numbers of a list are numbers of 64 bits. -/
structure Rng (e : E) : Prop where
  i0 : ∀ i, i < 4 → -9223372036854775808 ≤ (e.r.at i).i
  i1 : ∀ i, i < 4 → (e.r.at i).i ≤ 9223372036854775807
  n0 : -9223372036854775808 ≤ e.n
  n1 : e.n ≤ 9223372036854775807
theorem EOk.of {e : E} (h : okRow e.r = true) (hr : Rng e) : EOk e :=
  have h1 := okRow_parts h
  ⟨h1.1, h1.2.1, ⟨h1.2.2, hr.i0, hr.i1⟩, hr.n0, hr.n1⟩

theorem chk_zero {l : List E} (h : chk l = 0) : (∀ e ∈ l, okRow e.r = true) ∧ l.length ≤ 128 := by
  unfold chk at h
  split at h
  · rename_i ha
    refine ⟨List.all_eq_true.1 ha, ?_⟩
    split at h
    · cases h
    · omega
  · cases h

/-- The box of a first byte: a buffer. -/
theorem Buf.first (w : World) (c : Int) (h0 : 0 ≤ c) (h1 : c < 256) : Buf (w.alloc (.cells #[.int .u8 c] 5)) w.heap.size w.heap.size 1 1 [c.toNat.toUInt8] := by
  refine ⟨rfl, .inr ⟨w.heap.size, 1, #[.int .u8 c], rfl, Nat.le_refl _, heap_alloc_new w _, Nat.le_refl _, by decide, rfl, ?_⟩⟩
  simp [By_of c h0 h1]

theorem Buf.toStr {w : World} {base g L cap : Nat} {bs : List UInt8} (h : Buf w base g L cap bs) :
    (convert 56 9 (.slice (some ⟨g, 0, none⟩) L cap)).run Tryd.prog w = .ok (.string (mk bs)) w := by
  have hl := h.len
  have hc := World.ownsRow.cells h (g := g) rfl
  have e : strOfNums (bs.map fun c => (c.toNat : Int)) = mk bs := by
    unfold strOfNums mk
    congr 2
    rw [List.map_map]
    conv => rhs; rw [← List.map_id bs]
    apply List.map_congr_left
    intro c _
    simp
  rw [← e]
  refine run_convert_bytes_arg w 56 5 Tryd.underlying56 Tryd.underlying5 g 0 L cap _ (by simpa using hl) (fun i hi => ?_) 9 Tryd.underlying9
  have hi' : i < bs.length := by omega
  have := hc i (By bs[i]) (by simp [List.getElem?_eq_getElem hi'])
  have ha : (⟨g, 0, none⟩ : Addr).add i = ⟨g, 0 + i, none⟩ := by unfold Addr.add; split <;> simp_all
  rw [ha] at this
  rw [this]
  simp [By, List.getD, List.getElem?_eq_getElem hi']

theorem write_bad (v : Value) (l : List E) (w : World) (h : Sl w v l) (hn : l.length ≤ 1000000000000) (hc : chk l ≠ 0) :
    Calls Tryd.prog 14 #[v] w fun e w' => (∃ d x, d ≤ 2 ∧ e = .returned (.tuple #[.string ⟨#[]⟩, x]) ∧ ErrNo w' d x (chk l)) ∧ Below w.heap.size w w' := by
  have hch := check_all v l w h hn
  have HC : Hid (Calls Tryd.prog 21 #[v, .int .i64 128] w fun e w' => Err w' (chk l) e ∧ Below w.heap.size w w') := hch
  clear hch
  generalize chk l = C at hc HC ⊢
  go_enter Tryd.func14, Tryd.ntmps14
  go_wp2_with fail
  refine HC.out.mono ?_
  rintro e w1 ⟨hE, hB1⟩
  rcases hE with ⟨h0, _⟩ | ⟨_, d, x, hd, rfl, hE⟩
  · exact absurd h0 hc
  obtain ⟨t, y, rfl⟩ := hE.some
  go_wp2
  go_ret2
  exact ⟨⟨d, _, hd, rfl, hE⟩, hB1⟩

theorem write_nil (a : Option Addr) (cap : Nat) (w : World) :
    Calls Tryd.prog 14 #[.slice a 0 cap] w fun e w' => e = .returned (.tuple #[.string (mk [0]), .nilIface]) ∧ Below w.heap.size w w' := by
  go_enter Tryd.func14, Tryd.ntmps14
  go_wp2_with fail
  refine (check_nil a cap _).mono ?_
  rintro e w1 ⟨rfl, hB1⟩
  go_wp2_with fail
  refine (checkOrder_nil a cap _).mono ?_
  rintro e w2 ⟨rfl, hB2⟩
  have hcv := (Buf.first w2 0 (by decide) (by decide)).toStr
  go_wp2
  go_ret2
  exact ⟨rfl, (hB1.trans (hB2.mono hB1.size)).alloc (Nat.le_trans hB1.size hB2.size) _⟩

theorem write_order (l : List E) (b o cap : Nat) (w : World) (hl : ListAt w b o l) (hn : 0 < l.length) (hc : chk l = 0) (hO : ¬ InOrd l) :
    Calls Tryd.prog 14 #[.slice (some ⟨b, o, none⟩) l.length cap] w fun e w' => (∃ d x, d ≤ 2 ∧ e = .returned (.tuple #[.string ⟨#[]⟩, x]) ∧ ErrNo w' d x 4) ∧ Below w.heap.size w w' := by
  obtain ⟨hrows, h128⟩ := chk_zero hc
  have hbl : b < w.heap.size := World.block_lt_of_cell? w _ (hl 0 hn).row.w0
  have HC : Hid (Calls Tryd.prog 21 #[.slice (some ⟨b, o, none⟩) l.length cap, .int .i64 128] w fun e w' => e = .returned .nilIface ∧ Below w.heap.size w w') := (check_cons l b o cap w hl hn (by omega)).mono (by
    rintro e w' ⟨h1 | h1, hB⟩
    · exact ⟨h1.2, hB⟩
    · exact absurd hc h1.1)
  have HO : Hid (∀ w1, Below w.heap.size w w1 → Calls Tryd.prog 22 #[.slice (some ⟨b, o, none⟩) l.length cap] w1 fun e w' => (∃ t x, e = .returned (.iface t x) ∧ ErrNo w' 1 (.iface t x) 4) ∧ Below w1.heap.size w1 w') := fun w1 hB => (checkOrder_cons l b o cap w1 (hl.kept (fun c j h => (bcell hB).1 c j h) hbl) hn h128 (fun e he => ⟨(okRow_parts (hrows e he)).1, (okRow_parts (hrows e he)).2.1⟩)).mono (by
    rintro e w' ⟨h1 | h1, hB⟩
    · exact absurd h1.1 hO
    · obtain ⟨_, v, rfl, hE⟩ := h1
      obtain ⟨t, x, rfl⟩ := hE.some
      exact ⟨⟨t, x, rfl, hE⟩, hB⟩)
  generalize l.length = n at HC HO ⊢
  go_enter Tryd.func14, Tryd.ntmps14
  go_wp2_with fail
  refine HC.out.mono ?_
  rintro e w1 ⟨rfl, hB1⟩
  go_wp2_with fail
  refine (HO.out _ hB1).mono ?_
  rintro e w2 ⟨⟨t, x, rfl, hE⟩, hB2⟩
  go_wp2
  go_ret2
  exact ⟨⟨1, _, by omega, rfl, hE⟩, hB1.trans (hB2.mono hB1.size)⟩

theorem write_good (l : List E) (b o cap : Nat) (w : World) (hl : ListAt w b o l) (hn : 0 < l.length) (hc : chk l = 0) (hO : InOrd l) (hr : ∀ e ∈ l, Rng e) :
    Calls Tryd.prog 14 #[.slice (some ⟨b, o, none⟩) l.length cap] w fun e w' => e = .returned (.tuple #[.string (mk (enc l)), .nilIface]) ∧ Below w.heap.size w w' := by
  obtain ⟨hrows, h128⟩ := chk_zero hc
  have hbl : b < w.heap.size := World.block_lt_of_cell? w _ (hl 0 hn).row.w0
  have HC : Hid (Calls Tryd.prog 21 #[.slice (some ⟨b, o, none⟩) l.length cap, .int .i64 128] w fun e w' => e = .returned .nilIface ∧ Below w.heap.size w w') := (check_cons l b o cap w hl hn (by omega)).mono (by
    rintro e w' ⟨h1 | h1, hB⟩
    · exact ⟨h1.2, hB⟩
    · exact absurd hc h1.1)
  have HO : Hid (∀ w1, Below w.heap.size w w1 → Calls Tryd.prog 22 #[.slice (some ⟨b, o, none⟩) l.length cap] w1 fun e w' => e = .returned .nilIface ∧ Below w1.heap.size w1 w') := fun w1 hB => (checkOrder_cons l b o cap w1 (hl.kept (fun c j h => (bcell hB).1 c j h) hbl) hn h128 (fun e he => ⟨(okRow_parts (hrows e he)).1, (okRow_parts (hrows e he)).2.1⟩)).mono (by
    rintro e w' ⟨h1 | h1, hB⟩
    · exact ⟨h1.2, hB⟩
    · exact absurd hO h1.1)
  have HA : Hid (∀ w1, (∀ c j, c < w.heap.size → w1.cell? ⟨c, j, none⟩ = w.cell? ⟨c, j, none⟩) → ∀ base g0 L0 cap0 bs, Buf w1 base g0 L0 cap0 bs → L0 ≤ 1000 → base ≤ w1.heap.size → b < base → Calls Tryd.prog 23 #[.slice (some ⟨g0, 0, none⟩) L0 cap0, .slice (some ⟨b, o, none⟩) l.length cap] w1 fun e w' =>
      ∃ g L cap, e = .returned (.slice (some ⟨g, 0, none⟩) L cap) ∧ Buf w' base g L cap (bs ++ encL (shapeL l l[0].r) l[0].r l) ∧ w1.grownBy w' (some g0) ∧ (g = g0 ∨ w1.heap.size ≤ g)) := by
    intro w1 hk base g0 L0 cap0 bs hB hL hb hbb
    have hl1 : ListAt w1 b o l := hl.kept hk hbl
    have hok : ∀ e ∈ l, EOk e := fun e he => EOk.of (hrows e he) (hr e he)
    by_cases hs : shapeL l l[0].r = 0
    · exact appendEntries_mixed l b o cap w1 hl1 hn h128 hok hs base g0 L0 cap0 bs hB hL hb hbb
    · exact appendEntries_shaped l b o cap w1 hl1 hn h128 hok hs base g0 L0 cap0 bs hB hL hb hbb
  have HE : Hid ([((l.length : Nat) : Int).toNat.toUInt8] ++ encL (shapeL l l[0].r) l[0].r l = enc l) := by
    show _ = _
    cases l with
    | nil => simp at hn
    | cons e t => simp [enc]
  generalize encL (shapeL l l[0].r) l[0].r l = X at HA HE
  generalize enc l = Y at HE ⊢
  generalize l.length = n at HC HO HA HE hn h128 ⊢
  have hni : (0 : Int) < n := by omega
  have hn128 : (n : Int) ≤ 128 := by omega
  have hwr : IntKind.u8.wrap (n : Int) = n := by rw [IntKind.wrap_u8]; omega
  go_enter Tryd.func14, Tryd.ntmps14
  go_wp2_with fail
  refine HC.out.mono ?_
  rintro e w1 ⟨rfl, hB1⟩
  go_wp2_with fail
  refine (HO.out _ hB1).mono ?_
  rintro e w2 ⟨rfl, hB2⟩
  have hB12 : Below w.heap.size w w2 := hB1.trans (hB2.mono hB1.size)
  have hz : w.heap.size ≤ w2.heap.size := hB12.size
  have hF := Buf.first w2 n (by omega) (by omega)
  go_wp2_with fail
  refine (HA.out _ (fun c j h => (World.cell?_alloc_lt _ _ ⟨c, j, none⟩ (by show c < w2.heap.size; omega)).trans ((bcell hB12).1 c j h)) w2.heap.size _ 1 1 _ hF (by decide) (by simp) (by omega)).mono ?_
  rintro e w3 ⟨g, L, cap3, rfl, hB3, hgr, _⟩
  rw [HE.out] at hB3
  have hcv := hB3.toStr
  go_wp2
  go_ret2
  refine ⟨rfl, hB12.trans ?_⟩
  exact (((Below.refl _ w2).alloc hz _).trans ⟨hgr.os, hgr.tape, hgr.output, hgr.size, fun k hk => hgr.block k (by simp; omega) (by simp; omega)⟩)
end Go.Proofs.YtcbjoogkodcgkaaDoor
