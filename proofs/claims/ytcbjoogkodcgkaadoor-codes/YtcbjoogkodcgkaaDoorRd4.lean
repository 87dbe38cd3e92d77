/-
  Walks: reader.entry.
-/
import Derived.Test.YtcbjoogkodcgkaaDoorRd3
namespace Go.Proofs.YtcbjoogkodcgkaaDoor
open Go.RowKit
set_option maxHeartbeats 1000000
set_option maxRecDepth 100000

abbrev E.val (e : E) : Value := .agg #[.int .i64 e.r.w, .int .i64 e.r.a.k, .int .i64 e.r.a.i, .string e.r.a.t, .int .i64 e.r.b.k, .int .i64 e.r.b.i, .string e.r.b.t, .int .i64 e.r.c.k, .int .i64 e.r.c.i, .string e.r.c.t, .int .i64 e.r.d.k, .int .i64 e.r.d.i, .string e.r.d.t, .int .i64 e.n]

theorem grownBy_setNew {w w1 : World} {r : Option Nat} (h : w.grownBy w1 r) {b : Nat} (hb : w.heap.size ≤ b) (j : Nat) (v : Value) : w.grownBy (w1.setCell ⟨b, j, none⟩ v) r :=
  ⟨h.os, h.tape, h.output, by simpa [World.setCell] using h.size, fun k hk hne => (Below.heap_setCell _ _ _ _ (by show k ≠ b; omega)).trans (h.block k hk hne)⟩
theorem Rd.set {w : World} {rb : Nat} {l : List UInt8} (h : Rd w rb l) {b : Nat} (hne : rb ≠ b) (j : Nat) (v : Value) : Rd (w.setCell ⟨b, j, none⟩ v) rb l := (Below.heap_setCell _ _ _ _ hne).trans h
theorem grownBy_of_two {p q : Nat} {w w1 w2 : World} (h : w.grownBy w1 (some p)) (h2 : Two p q w1 w2) (hq : w.heap.size ≤ q) : w.grownBy w2 (some p) :=
  ⟨h2.os.trans h.os, h2.tape.trans h.tape, h2.output.trans h.output, Nat.le_trans h.size h2.size, fun k hk hne => (h2.block k (Nat.lt_of_lt_of_le hk h.size) (by simpa using hne) (by omega)).trans (h.block k hk hne)⟩

theorem heap_new_at (w : World) (o : Obj) (b : Nat) (h : b = w.heap.size) : (w.alloc o).heap[b]? = some o := h ▸ heap_alloc_new w o

/-- Reading an entry's values and weight. -/
def rBody (r : R) (s : Int) (l : List UInt8) : Option (E × List UInt8) :=
  match rCells s false (s / 16).toNat 0 r l with
  | none => none
  | some (r', l') => (match rNum 10 0 0 l' with | none => none | some (u, l'') => some (⟨r', unzz u⟩, l''))
def rEntry (sh : R) (s : Int) (l : List UInt8) : Option (E × List UInt8) :=
  if s = 0 then (match l with | [] => none | c :: l1 => if 4 < c.toNat then none else rBody { sh with w := c.toNat } (c.toNat * 16) l1) else rBody sh s l

theorem entry_shaped (rb : Nat) (sh : R) (s : Int) (hs : s ≠ 0) (hs0 : 0 ≤ s) (hs1 : s < 80) (l : List UInt8) (w : World) (h : Rd w rb l) (hS : Sents w) (hrb : 8 ≤ rb) :
    Calls Tryd.prog 45 #[.pointer (some ⟨rb, 0, none⟩), sh.val, .int .u8 s] w fun e w' =>
      Got 1 (rEntry sh s l) (fun v => ∃ x : E, v = x.val) E.val rb e w' ∧ w.grownBy w' (some rb) := by
  have hrl := h.lt
  have hw8 : 8 ≤ w.heap.size := by omega
  have HE : Hid (rEntry sh s l = rBody sh s l) := by show _ = _; simp [rEntry, hs]
  have hsq : (s == 0) = false := by simpa using hs
  go_enter Tryd.func45, Tryd.ntmps45
  go_wp2_with fail
  refine (cells_any rb (w.heap.size + 1 + 1) 38 sh [.int .i64 0] s hs0 hs1 false l _ (((h.al _).al _).al _) ?_ ?_ hrb (by omega) (by omega)).mono ?_
  · exact (heap_new_at _ _ _ (by simp)).trans rfl
  · exact (hS.kept (rb := rb) (grownBy_al (grownBy_al (World.grownBy_alloc w _ _) _) _) hrb)
  rintro e w1 ⟨hgot, hT⟩
  have hG1 : w.grownBy w1 (some rb) := grownBy_of_two (grownBy_al (grownBy_al (World.grownBy_alloc w _ _) _) _) hT (by omega)
  have hres := (hT.block (w.heap.size + 1) (by simp) (by omega) (by omega)).trans ((Below.heap_alloc _ _ _ (by simp)).trans (heap_new_at _ _ _ (by simp)))
  cases hc : rCells s false (s / 16).toNat 0 sh l with
  | none =>
    have HB : Hid (rEntry sh s l = none) := by show _ = _; rw [HE.out]; unfold rBody; rw [hc]
    rw [hc] at hgot
    obtain ⟨⟨t, x, rfl, hbd⟩, r1, hP1⟩ := hgot
    have HBd : Hid (Bd w1 (w.heap.size + 3) 1 (.iface t x)) := hbd.mono (by simp) (Nat.le_refl _)
    clear hbd
    obtain ⟨bc, bf⟩ := block_facts hres
    obtain ⟨pc, pf⟩ := hP1.facts
    have b0 := bc 0
    have b1 := bc 1
    have b2 := bc 2
    have b3 := bc 3
    have b4 := bc 4
    have b5 := bc 5
    have b6 := bc 6
    have b7 := bc 7
    have b8 := bc 8
    have b9 := bc 9
    have b10 := bc 10
    have b11 := bc 11
    have b12 := bc 12
    have b13 := bc 13
    have p0 := pc 0
    have p1 := pc 1
    have p2 := pc 2
    have p3 := pc 3
    have p4 := pc 4
    have p5 := pc 5
    have p6 := pc 6
    have p7 := pc 7
    have p8 := pc 8
    have p9 := pc 9
    have p10 := pc 10
    have p11 := pc 11
    have p12 := pc 12
    have p13 := pc 13
    simp [R.cells, V.cells] at b0 b1 b2 b3 b4 b5 b6 b7 b8 b9 b10 b11 b12 b13 p0 p1 p2 p3 p4 p5 p6 p7 p8 p9 p10 p11 p12 p13
    clear bc pc hres
    go_wp2
    refine bodyPost_ret (v := .tuple #[(⟨r1, 0⟩ : E).val, .iface t x]) (by simp [results, Tryd.results45, go_sem, b0, b1, b2, b3, b4, b5, b6, b7, b8, b9, b10, b11, b12, b13]) rfl ?_
    exact ⟨Got.bad (z := fun v => ∃ x : E, v = x.val) HB.out ⟨_, rfl⟩ t x (by refine Bd.mono (Nat.zero_le (w.heap.size + 3)) (Nat.le_refl _) ?_; repeat (first | (refine Bd.set ?_ (by omega) _ _) | exact HBd.out)), by repeat (first | (refine grownBy_setNew ?_ (by omega) _ _) | exact hG1)⟩
  | some p =>
    obtain ⟨r1, l1⟩ := p
    rw [hc] at hgot
    obtain ⟨rfl, hR1, hP1⟩ := hgot
    have hS1 : Sents w1 := hS.kept hG1 hrb
    have hsz1 : w.heap.size + 3 ≤ w1.heap.size := by have := hT.size; simpa using this
    go_wp2_with fail
    refine (number_any rb l1 _ hR1 hS1.e1 hS1.e3 hrb).mono ?_
    rintro e w2 ⟨hgot2, hg2⟩
    have hG2 : w.grownBy w2 (some rb) := grownBy_step hG1 hg2 (.inl rfl)
    have hP2 : RowBlk w2 (w.heap.size + 1 + 1) 38 r1 [.int .i64 0] := (hg2.block _ (by omega) (by simp; omega)).trans hP1
    have hres2 := (hg2.block (w.heap.size + 1) (by omega) (by simp; omega)).trans hres
    obtain ⟨bc, bf⟩ := block_facts hres2
    obtain ⟨pc, pf⟩ := hP2.facts
    have hn1 : w.heap.size + 1 ≠ w.heap.size + 1 + 1 := by omega
    have b0 := bc 0
    have b1 := bc 1
    have b2 := bc 2
    have b3 := bc 3
    have b4 := bc 4
    have b5 := bc 5
    have b6 := bc 6
    have b7 := bc 7
    have b8 := bc 8
    have b9 := bc 9
    have b10 := bc 10
    have b11 := bc 11
    have b12 := bc 12
    have b13 := bc 13
    have p0 := pc 0
    have p1 := pc 1
    have p2 := pc 2
    have p3 := pc 3
    have p4 := pc 4
    have p5 := pc 5
    have p6 := pc 6
    have p7 := pc 7
    have p8 := pc 8
    have p9 := pc 9
    have p10 := pc 10
    have p11 := pc 11
    have p12 := pc 12
    have p13 := pc 13
    simp [R.cells, V.cells] at b0 b1 b2 b3 b4 b5 b6 b7 b8 b9 b10 b11 b12 b13 p0 p1 p2 p3 p4 p5 p6 p7 p8 p9 p10 p11 p12 p13
    clear bc pc hres hres2
    cases hn : rNum 10 0 0 l1 with
    | none =>
      have HB : Hid (rEntry sh s l = none) := by show _ = _; rw [HE.out]; unfold rBody; rw [hc]; simp only [hn]
      rw [hn] at hgot2
      obtain ⟨v, t, x, rfl, rfl, hbd⟩ := hgot2
      have HLf : Hid (Lf (.iface t x)) := hbd.zero
      clear hbd
      go_wp2
      refine bodyPost_ret (v := .tuple #[(⟨r1, 0⟩ : E).val, .iface t x]) (by simp [results, Tryd.results45, go_sem, b0, b1, b2, b3, b4, b5, b6, b7, b8, b9, b10, b11, b12, b13]) rfl ?_
      exact ⟨Got.bad (z := fun v => ∃ x : E, v = x.val) HB.out ⟨_, rfl⟩ t x (HLf.out.bd _ _ _), by repeat (first | (refine grownBy_setNew ?_ (by omega) _ _) | exact hG2)⟩
    | some q =>
      obtain ⟨u, l2⟩ := q
      have HB : Hid (rEntry sh s l = some (⟨r1, unzz u⟩, l2)) := by show _ = _; rw [HE.out]; unfold rBody; rw [hc]; simp only [hn]
      rw [hn] at hgot2
      obtain ⟨rfl, hR2⟩ := hgot2
      go_wp2
      refine bodyPost_ret (v := .tuple #[(⟨r1, unzz u⟩ : E).val, .nilIface]) (by simp [results, Tryd.results45, go_sem, b0, b1, b2, b3, b4, b5, b6, b7, b8, b9, b10, b11, b12, b13]) rfl ?_
      exact ⟨Got.good HB.out (by repeat (first | (refine Rd.set ?_ (by omega) _ _) | exact hR2)), by repeat (first | (refine grownBy_setNew ?_ (by omega) _ _) | exact hG2)⟩
end Go.Proofs.YtcbjoogkodcgkaaDoor
