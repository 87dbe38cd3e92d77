/-
  Walks: reader.cells.
-/
import Derived.Test.YtcbjoogkodcgkaaDoorRd2
namespace Go.Proofs.YtcbjoogkodcgkaaDoor
open Go.RowKit
set_option maxHeartbeats 1000000
set_option maxRecDepth 100000

def R.put (r : R) (i : Nat) (v : V) : R := match i with | 0 => { r with a := v } | 1 => { r with b := v } | 2 => { r with c := v } | _ => { r with d := v }

/-- The block of a row (of an entry, with what stands behind the row). -/
def RowBlk (w : World) (b t : Nat) (x : R) (rest : List Value) : Prop := w.heap[b]? = some (.cells (x.cells ++ rest).toArray t (0, 0))
theorem RowBlk.lt {w : World} {b t : Nat} {x : R} {rest : List Value} (h : RowBlk w b t x rest) : b < w.heap.size := lt_of_block h

/-- Of what was there only two blocks have turned. -/
structure Two (p q : Nat) (w w' : World) : Prop where
  os : w'.os = w.os
  tape : w'.tape = w.tape
  output : w'.output = w.output
  size : w.heap.size ≤ w'.heap.size
  block : ∀ k, k < w.heap.size → k ≠ p → k ≠ q → w'.heap[k]? = w.heap[k]?
theorem Two.refl (p q : Nat) (w : World) : Two p q w w := ⟨rfl, rfl, rfl, Nat.le_refl _, fun _ _ _ _ => rfl⟩
theorem Two.grown {p q : Nat} {w w1 w2 : World} (h : Two p q w w1) (hg : w1.grownBy w2 (some p)) : Two p q w w2 :=
  ⟨hg.os.trans h.os, hg.tape.trans h.tape, hg.output.trans h.output, Nat.le_trans h.size hg.size, fun k hk h1 h2 => (hg.block k (Nat.lt_of_lt_of_le hk h.size) (by simpa using h1)).trans (h.block k hk h1 h2)⟩
theorem Two.below {p q : Nat} {w w1 w2 : World} (h : Two p q w w1) (hb : Below w1.heap.size w1 w2) : Two p q w w2 := h.grown (grownBy_of_below hb _)
theorem Two.set {p q : Nat} {w w1 : World} (h : Two p q w w1) (j : Nat) (v : Value) : Two p q w (w1.setCell ⟨q, j, none⟩ v) :=
  ⟨h.os, h.tape, h.output, by simpa [World.setCell] using h.size, fun k hk h1 h2 => (Below.heap_setCell _ _ _ _ h2).trans (h.block k hk h1 h2)⟩
theorem Two.drew {p q : Nat} {w w1 : World} (h : Two p q w w1) : Two p q w w1.drew := ⟨h.os, h.tape, h.output, h.size, h.block⟩

theorem heap_setCell_at {w : World} {b j t : Nat} {l : List Value} (h : w.heap[b]? = some (.cells l.toArray t (0, 0))) (v : Value) : (w.setCell ⟨b, j, none⟩ v).heap[b]? = some (.cells (l.set j v).toArray t (0, 0)) := by
  have hb := lt_of_block h
  simp only [World.setCell, Array.getElem?_modify]
  rw [if_pos trivial, h]
  simp

theorem rdset {w1 : World} {rb B i j k : Nat} {l : List UInt8} {x y z : Value} (h : Rd w1 rb l) (hne : rb ≠ B) : Rd (((w1.setCell ⟨B, i, none⟩ x).setCell ⟨B, j, none⟩ y).setCell ⟨B, k, none⟩ z) rb l := by
  unfold Rd
  rw [Below.heap_setCell _ _ _ _ hne, Below.heap_setCell _ _ _ _ hne, Below.heap_setCell _ _ _ _ hne]
  exact h
theorem RowBlk.set {w : World} {b t : Nat} {x : R} {rest : List Value} (h : RowBlk w b t x rest) (i : Nat) (hi : i < 4) (v : V) :
    RowBlk (((w.setCell ⟨b, 1 + i * 3, none⟩ (.int .i64 v.k)).setCell ⟨b, 1 + i * 3 + 1, none⟩ (.int .i64 v.i)).setCell ⟨b, 1 + i * 3 + 2, none⟩ (.string v.t)) b t (x.put i v) rest := by
  have h1 := heap_setCell_at (j := 1 + i * 3) h (.int .i64 v.k)
  have h2 := heap_setCell_at (j := 1 + i * 3 + 1) h1 (.int .i64 v.i)
  have h3 := heap_setCell_at (j := 1 + i * 3 + 2) h2 (.string v.t)
  unfold RowBlk
  rw [h3]
  rcases lt4 hi with rfl | rfl | rfl | rfl <;> rfl
theorem RowBlk.facts {w : World} {b t : Nat} {x : R} {rest : List Value} (h : RowBlk w b t x rest) : (∀ j, w.cell? ⟨b, j, none⟩ = (x.cells ++ rest)[j]?) ∧ (∀ j, w.frozen? ⟨b, j, none⟩ = false) := by
  obtain ⟨h1, h2⟩ := block_facts h
  exact ⟨fun j => by rw [h1]; simp, h2⟩
theorem RowBlk.rowAt {w : World} {b t : Nat} {x : R} {rest : List Value} (h : RowBlk w b t x rest) : RowAt w b 0 x := by
  have h1 := h.facts.1
  refine ⟨(h1 _).trans rfl, ?_, ?_, ?_⟩ <;> intro i hi <;> rcases lt4 hi with rfl | rfl | rfl | rfl <;> exact (h1 _).trans rfl

theorem Rd.al {w : World} {rb : Nat} {l : List UInt8} (h : Rd w rb l) (o : Obj) : Rd (w.alloc o) rb l := (Below.heap_alloc w o rb h.lt).trans h
theorem Rd.dr {w : World} {rb : Nat} {l : List UInt8} (h : Rd w rb l) : Rd w.drew rb l := h
theorem RowBlk.al {w : World} {b t : Nat} {x : R} {rest : List Value} (h : RowBlk w b t x rest) (o : Obj) : RowBlk (w.alloc o) b t x rest := (Below.heap_alloc w o b h.lt).trans h
theorem RowBlk.dr {w : World} {b t : Nat} {x : R} {rest : List Value} (h : RowBlk w b t x rest) : RowBlk w.drew b t x rest := h

/-- Reading the values of some columns. -/
def rCells (s : Int) (same : Bool) : Nat → Nat → R → List UInt8 → Option (R × List UInt8)
  | 0, _, r, l => some (r, l)
  | n + 1, i, r, l => if bitAt s i = same then (match rVal l with | none => none | some (v, l') => rCells s same n (i + 1) (r.put i v) l') else rCells s same n (i + 1) r l
/-- What cells answers. -/
def GotR (base : Nat) (o : Option (R × List UInt8)) (rb pb t : Nat) (rest : List Value) (e : Ending) (w' : World) : Prop :=
  match o with
  | none => (∃ t x, e = .returned (.iface t x) ∧ Bd w' base 1 (.iface t x)) ∧ ∃ r, RowBlk w' pb t r rest
  | some (r, l') => e = .returned .nilIface ∧ Rd w' rb l' ∧ RowBlk w' pb t r rest
theorem GotR.bad {base : Nat} {o : Option (R × List UInt8)} (h : o = none) {rb pb t : Nat} {rest : List Value} {w' : World} (t1 : Nat) (x : Value) (hd : Bd w' base 1 (.iface t1 x)) {r : R} (hb : RowBlk w' pb t r rest) : GotR base o rb pb t rest (.returned (.iface t1 x)) w' := by
  subst h; exact ⟨⟨t1, x, rfl, hd⟩, r, hb⟩
theorem GotR.good {base : Nat} {o : Option (R × List UInt8)} {r : R} {l' : List UInt8} (h : o = some (r, l')) {rb pb t : Nat} {rest : List Value} {w' : World} (hr : Rd w' rb l') (hb : RowBlk w' pb t r rest) : GotR base o rb pb t rest (.returned .nilIface) w' := by
  subst h; exact ⟨rfl, hr, hb⟩

theorem cells_any (rb pb t : Nat) (x : R) (rest : List Value) (s : Int) (hs0 : 0 ≤ s) (hs1 : s < 80) (same : Bool) (l : List UInt8) (w : World) (h : Rd w rb l) (hX : RowBlk w pb t x rest) (hS : Sents w) (hrb : 8 ≤ rb) (hne : rb ≠ pb) (hpb : 8 ≤ pb) :
    Calls Tryd.prog 44 #[.pointer (some ⟨rb, 0, none⟩), .pointer (some ⟨pb, 0, none⟩), .int .u8 s, .bool same] w fun e w' =>
      GotR w.heap.size (rCells s same (s / 16).toNat 0 x l) rb pb t rest e w' ∧ Two rb pb w w' := by
  obtain ⟨m, hm⟩ : ∃ m : Nat, s / 16 = m := ⟨(s / 16).toNat, by omega⟩
  have hm4 : m ≤ 4 := by omega
  have e0 : (s / 16).toNat = m := by omega
  rw [e0]; clear e0
  have hrl := h.lt
  have hpl := hX.lt
  go_enter Tryd.func44, Tryd.ntmps44
  go_wp2_with fail
  refine (width_any s hs0 (by omega) _).mono ?_
  rintro e w ⟨rfl, rfl⟩
  go_wp2
  go_loopw [14] (fun i wr => ∃ (k : Nat) (x1 : R) (l1 : List UInt8), i = .int .i64 k ∧ k ≤ m ∧ rCells s same m 0 x l = rCells s same (m - k) k x1 l1 ∧ Rd wr rb l1 ∧ RowBlk wr pb t x1 rest ∧ Two rb pb w wr) (fun i _ => m - (intOf i).toNat)
  case atStart => exact ⟨0, x, l, rfl, Nat.zero_le _, rfl, h, hX, Two.refl _ _ _⟩
  case round =>
    obtain ⟨k, x1, l1, rfl, hk, hq, hR, hP, hT⟩ := hrel
    have HQ : Hid (rCells s same m 0 x l = rCells s same (m - k) k x1 l1) := hq
    clear hq
    by_cases hlt : k < m
    · have hk4 : k < 4 := by omega
      have hki : (k : Int) < 4 := by omega
      have hk0 : (0 : Int) ≤ k := by omega
      have hkm : (k : Int) < m := by omega
      by_cases hbit : bitAt s k = same
      · have hbq : (bitAt s k != same) = false := by simp [hbit]
        have HS1 : Hid (rCells s same m 0 x l = (match rVal l1 with | none => none | some (v, l') => rCells s same (m - (k + 1)) (k + 1) (x1.put k v) l')) := by
          show _ = _
          rw [HQ.out, show m - k = (m - (k + 1)) + 1 from by omega]
          simp only [rCells, if_pos hbit]
        clear hbq
        have hSr : Sents wr := by
          have hk : ∀ g, g < 8 → Sent w g → Sent wr g := fun g hg1 ⟨t, x, hc, hl⟩ => ⟨t, x, (World.cell?_of_block (w := w) (a := ⟨g, 0, none⟩) (hT.block g (by show g < w.heap.size; omega) (by show g ≠ rb; omega) (by show g ≠ pb; omega))).trans hc, hl⟩
          exact ⟨hk _ (by decide) hS.e1, hk _ (by decide) hS.e2, hk _ (by decide) hS.e3⟩
        go_wp2_with fail
        refine (same_any s k hs0 (by omega) hki _).mono ?_
        rintro e wr ⟨rfl, rfl⟩
        go_wp2_with fail
        refine (value_any rb l1 _ hR hSr hrb).mono ?_
        rintro e w1 ⟨hgot, hg1⟩
        have hP1 : RowBlk w1 pb t x1 rest := (hg1.block pb hP.lt (by simp; omega)).trans hP
        cases hv : rVal l1 with
        | none =>
          rw [hv] at hgot HS1
          obtain ⟨v, t1, y, ⟨vv, rfl⟩, rfl, hbd⟩ := hgot
          have HLf : Hid (Lf (.iface t1 y)) := hbd.zero
          clear hbd
          have HSZ : Hid (w.heap.size ≤ w1.heap.size) := Nat.le_trans hT.size hg1.size
          go_wp2_with fail
          refine (at_any _ _ t1 y _).mono ?_
          rintro e w2 ⟨rfl, rfl⟩
          go_wp2
          go_ret
          exact ⟨GotR.bad HS1.out _ _ (Bd.at (HLf.out.bd _ _ 0) (by simp) (by have := HSZ.out; omega)) ((hP1.al _).al _), ((hT.grown hg1).below (below_box _ _)).below (below_box _ _)⟩
        | some p =>
          obtain ⟨v, l2⟩ := p
          rw [hv] at hgot HS1
          obtain ⟨rfl, hR1⟩ := hgot
          obtain ⟨pc, pf⟩ := hP1.facts
          have hsz1 : pb < w1.heap.size := hP1.lt
          have p0 : (w1.cell? ⟨pb, 1 + k * 3, none⟩).isSome = true := by rw [pc]; rcases lt4 hk4 with rfl | rfl | rfl | rfl <;> rfl
          have p1 : (w1.cell? ⟨pb, 1 + k * 3 + 1, none⟩).isSome = true := by rw [pc]; rcases lt4 hk4 with rfl | rfl | rfl | rfl <;> rfl
          have p2 : (w1.cell? ⟨pb, 1 + k * 3 + 2, none⟩).isSome = true := by rw [pc]; rcases lt4 hk4 with rfl | rfl | rfl | rfl <;> rfl
          obtain ⟨y0, p0⟩ := Option.isSome_iff_exists.1 p0
          obtain ⟨y1, p1⟩ := Option.isSome_iff_exists.1 p1
          obtain ⟨y2, p2⟩ := Option.isSome_iff_exists.1 p2
          clear pc
          go_wp2
          go_region
          go_wp2
          go_roundw
          case rel =>
            refine ⟨k + 1, x1.put k v, l2, by go_num, by omega, HS1.out, ?_, ?_, ?_⟩
            · exact ((rdset hR1 hne).al _).dr
            · exact ((hP1.set k hk4 v).al _).dr
            · exact (((((hT.grown hg1).set _ _).set _ _).set _ _).below (below_box _ _)).drew
          case measure => simp [intOf]; omega
      · have hbq : (!(bitAt s k == same)) = true := by cases h1 : bitAt s k <;> cases same <;> simp_all
        have HS1 : Hid (rCells s same m 0 x l = rCells s same (m - (k + 1)) (k + 1) x1 l1) := by
          show _ = _
          rw [HQ.out, show m - k = (m - (k + 1)) + 1 from by omega]
          simp only [rCells, if_neg hbit]
        clear hbit
        go_wp2_with fail
        refine (same_any s k hs0 (by omega) hki _).mono ?_
        rintro e wr ⟨rfl, rfl⟩
        go_wp2
        go_roundw
        case rel => exact ⟨k + 1, x1, l1, by go_num, by omega, HS1.out, hR, hP, hT⟩
        case measure => simp [intOf]; omega
    · have hkm : (m : Int) ≤ k := by omega
      have HS1 : Hid (rCells s same m 0 x l = some (x1, l1)) := by
        show _ = _
        rw [HQ.out, show m - k = 0 from by omega]
        rfl
      go_wp2
      go_ret
      exact ⟨GotR.good HS1.out hR hP, hT⟩
end Go.Proofs.YtcbjoogkodcgkaaDoor
