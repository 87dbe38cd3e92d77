/-
  Walks: reader.entry, rows of several widths.
-/
import Derived.Test.YtcbjoogkodcgkaaDoorRd4
namespace Go.Proofs.YtcbjoogkodcgkaaDoor
open Go.RowKit
set_option maxHeartbeats 2000000
set_option maxRecDepth 100000

theorem size_set (w : World) (a : Addr) (v : Value) : (w.setCell a v).heap.size = w.heap.size := by simp [World.setCell]
theorem entry_mixed (rb : Nat) (sh : R) (l : List UInt8) (w : World) (h : Rd w rb l) (hS : Sents w) (hrb : 8 ≤ rb) :
    Calls Tryd.prog 45 #[.pointer (some ⟨rb, 0, none⟩), sh.val, .int .u8 0] w fun e w' =>
      Got 1 (rEntry sh 0 l) (fun v => ∃ x : E, v = x.val) E.val rb e w' ∧ w.grownBy w' (some rb) := by
  have hrl := h.lt
  have hw8 : 8 ≤ w.heap.size := by omega
  have hR3 : ∀ o1 o2 o3, Rd (((w.alloc o1).alloc o2).alloc o3) rb l := fun o1 o2 o3 => ((h.al o1).al o2).al o3
  have hG3 : ∀ o1 o2 o3, w.grownBy (((w.alloc o1).alloc o2).alloc o3) (some rb) := fun o1 o2 o3 => grownBy_al (grownBy_al (World.grownBy_alloc w _ _) _) _
  have hn1 : w.heap.size + 1 ≠ w.heap.size + 1 + 1 := by omega
  cases l with
  | nil =>
    have HB : Hid (rEntry sh 0 [] = none) := by show _ = _; simp [rEntry]
    go_enter Tryd.func45, Tryd.ntmps45
    go_wp2_with fail
    refine (next_nil rb _ (hR3 _ _ _) (hS.kept (hG3 _ _ _) hrb).e1).mono ?_
    rintro e w1 ⟨⟨t, x, rfl, hl⟩, hg1⟩
    have HLf : Hid (Lf (.iface t x)) := hl
    clear hl
    have hG1 : w.grownBy w1 (some rb) := grownBy_step (hG3 _ _ _) hg1 (.inl rfl)
    have hres := (hg1.block (w.heap.size + 1) (by simp) (by simp; omega)).trans ((Below.heap_alloc _ _ _ (by simp)).trans (heap_new_at _ _ _ (by simp)))
    have hP1 : RowBlk w1 (w.heap.size + 1 + 1) 38 sh [.int .i64 0] := (hg1.block (w.heap.size + 1 + 1) (by simp) (by simp; omega)).trans ((heap_new_at _ _ _ (by simp)).trans rfl)
    obtain ⟨bc, bf⟩ := block_facts hres
    obtain ⟨pc, pf⟩ := hP1.facts
    have b0 := bc 0
    have b1 := bc 1
    have b2 := bc 2
    have b3 := bc 3
    have b4 := bc 4
    have b5 := bc 5
    have b6 := bc 6
    have b7 := bc 7
    have b8 := bc 8
    have b9 := bc 9
    have b10 := bc 10
    have b11 := bc 11
    have b12 := bc 12
    have b13 := bc 13
    have p0 := pc 0
    have p1 := pc 1
    have p2 := pc 2
    have p3 := pc 3
    have p4 := pc 4
    have p5 := pc 5
    have p6 := pc 6
    have p7 := pc 7
    have p8 := pc 8
    have p9 := pc 9
    have p10 := pc 10
    have p11 := pc 11
    have p12 := pc 12
    have p13 := pc 13
    simp [R.cells, V.cells] at b0 b1 b2 b3 b4 b5 b6 b7 b8 b9 b10 b11 b12 b13 p0 p1 p2 p3 p4 p5 p6 p7 p8 p9 p10 p11 p12 p13
    clear bc pc hres
    go_wp2
    refine bodyPost_ret (v := .tuple #[(⟨sh, 0⟩ : E).val, .iface t x]) (by simp [results, Tryd.results45, go_sem, b0, b1, b2, b3, b4, b5, b6, b7, b8, b9, b10, b11, b12, b13]) rfl ?_
    exact ⟨Got.bad (z := fun v => ∃ x : E, v = x.val) HB.out ⟨_, rfl⟩ t x (HLf.out.bd _ _ _), by repeat (first | (refine grownBy_setNew ?_ (by omega) _ _) | exact hG1)⟩
  | cons c l1 =>
    have hcl := c.toNat_lt
    have hci : (c.toNat : Int) < 256 := by omega
    go_enter Tryd.func45, Tryd.ntmps45
    go_wp2_with fail
    refine (next_cons rb c l1 _ (hR3 _ _ _)).mono ?_
    rintro e w1 ⟨rfl, hR1, hg1⟩
    have hG1 : w.grownBy w1 (some rb) := grownBy_step (hG3 _ _ _) hg1 (.inl rfl)
    have hsz1 : w.heap.size + 3 ≤ w1.heap.size := by have := hg1.size; simpa using this
    have hres := (hg1.block (w.heap.size + 1) (by simp) (by simp; omega)).trans ((Below.heap_alloc _ _ _ (by simp)).trans (heap_new_at _ _ _ (by simp)))
    have hP1 : RowBlk w1 (w.heap.size + 1 + 1) 38 sh [.int .i64 0] := (hg1.block (w.heap.size + 1 + 1) (by simp) (by simp; omega)).trans ((heap_new_at _ _ _ (by simp)).trans rfl)
    have hz1 : w.heap.size + 1 + 1 < w1.heap.size := by omega
    have hz2 : w.heap.size + 1 < w1.heap.size := by omega
    have hz3 : w.heap.size + 2 < w1.heap.size := by omega
    by_cases h4 : 4 < c.toNat
    · have h4i : (4 : Int) < c.toNat := by omega
      have HB : Hid (rEntry sh 0 (c :: l1) = none) := by show _ = _; simp [rEntry, h4]
      obtain ⟨bc, bf⟩ := block_facts hres
      obtain ⟨pc, pf⟩ := hP1.facts
      have b0 := bc 0
      have b1 := bc 1
      have b2 := bc 2
      have b3 := bc 3
      have b4 := bc 4
      have b5 := bc 5
      have b6 := bc 6
      have b7 := bc 7
      have b8 := bc 8
      have b9 := bc 9
      have b10 := bc 10
      have b11 := bc 11
      have b12 := bc 12
      have b13 := bc 13
      have p0 := pc 0
      have p1 := pc 1
      have p2 := pc 2
      have p3 := pc 3
      have p4 := pc 4
      have p5 := pc 5
      have p6 := pc 6
      have p7 := pc 7
      have p8 := pc 8
      have p9 := pc 9
      have p10 := pc 10
      have p11 := pc 11
      have p12 := pc 12
      have p13 := pc 13
      simp [R.cells, V.cells] at b0 b1 b2 b3 b4 b5 b6 b7 b8 b9 b10 b11 b12 b13 p0 p1 p2 p3 p4 p5 p6 p7 p8 p9 p10 p11 p12 p13
      clear bc pc hres
      go_wp2
      go_region_held3 (fun w' => w'.cell? ⟨w.heap.size + 1 + 1, 0, none⟩ = some (.int .i64 sh.w) ∧ w'.cell? ⟨w.heap.size + 1 + 1, 1, none⟩ = some (.int .i64 sh.a.k) ∧ w'.cell? ⟨w.heap.size + 1 + 1, 2, none⟩ = some (.int .i64 sh.a.i) ∧ w'.cell? ⟨w.heap.size + 1 + 1, 3, none⟩ = some (.string sh.a.t) ∧ w'.cell? ⟨w.heap.size + 1 + 1, 4, none⟩ = some (.int .i64 sh.b.k) ∧ w'.cell? ⟨w.heap.size + 1 + 1, 5, none⟩ = some (.int .i64 sh.b.i) ∧ w'.cell? ⟨w.heap.size + 1 + 1, 6, none⟩ = some (.string sh.b.t) ∧ w'.cell? ⟨w.heap.size + 1 + 1, 7, none⟩ = some (.int .i64 sh.c.k) ∧ w'.cell? ⟨w.heap.size + 1 + 1, 8, none⟩ = some (.int .i64 sh.c.i) ∧ w'.cell? ⟨w.heap.size + 1 + 1, 9, none⟩ = some (.string sh.c.t) ∧ w'.cell? ⟨w.heap.size + 1 + 1, 10, none⟩ = some (.int .i64 sh.d.k) ∧ w'.cell? ⟨w.heap.size + 1 + 1, 11, none⟩ = some (.int .i64 sh.d.i) ∧ w'.cell? ⟨w.heap.size + 1 + 1, 12, none⟩ = some (.string sh.d.t) ∧ w'.cell? ⟨w.heap.size + 1 + 1, 13, none⟩ = some (.int .i64 0)) (simp [go_sem, *])
        (first
          | (go_at_call 34; refine (at_any _ _ _ _ _).mono ?_; rintro e w2 ⟨rfl, rfl⟩))
      go_wp2
      rename_i hHeld
      clear hHeld
      refine bodyPost_ret (v := .tuple #[(⟨sh, 0⟩ : E).val, .iface 115 (.pointer (some ⟨w1.heap.size, 0, none⟩))]) (by simp [results, Tryd.results45, go_sem, b0, b1, b2, b3, b4, b5, b6, b7, b8, b9, b10, b11, b12, b13, hz2]) rfl ?_
      exact ⟨Got.bad (z := fun v => ∃ x : E, v = x.val) HB.out ⟨_, rfl⟩ _ _ (by refine Bd.dr ?_; refine Bd.at (k := 0) (Lf.bd (Lf.num (n := 1) (by decide)) _ _ _) ?_ (Nat.zero_le _); simp only [size_set]), by refine grownBy_drew (grownBy_al ?_ _); repeat (first | (refine grownBy_setNew ?_ (by omega) _ _) | exact hG1)⟩
    · have h4i : ¬ (4 : Int) < c.toNat := by omega
      have hc0 : (0 : Int) ≤ c.toNat := by omega
      have hwr : IntKind.i64.wrap (c.toNat : Int) = c.toNat := by rw [IntKind.wrap_i64]; omega
      have HE : Hid (rEntry sh 0 (c :: l1) = rBody { sh with w := c.toNat } (c.toNat * 16) l1) := by show _ = _; simp [rEntry, h4]
      obtain ⟨pc, pf⟩ := hP1.facts
      have p0 := pc 0
      simp [R.cells] at p0
      clear pc
      have hPb : RowBlk (w1.setCell ⟨w.heap.size + 1 + 1, 0, none⟩ (.int .i64 c.toNat)) (w.heap.size + 1 + 1) 38 { sh with w := c.toNat } [.int .i64 0] := (heap_setCell_at (j := 0) hP1 _).trans rfl
      have hRb : Rd (w1.setCell ⟨w.heap.size + 1 + 1, 0, none⟩ (.int .i64 c.toNat)) rb l1 := hR1.set (by omega) _ _
      have hGb : w.grownBy (w1.setCell ⟨w.heap.size + 1 + 1, 0, none⟩ (.int .i64 c.toNat)) (some rb) := grownBy_setNew hG1 (by omega) _ _
      have hresb := (Below.heap_setCell w1 ⟨w.heap.size + 1 + 1, 0, none⟩ (.int .i64 c.toNat) (w.heap.size + 1) (by simp)).trans hres
      clear hres
      have hszb : w.heap.size + 3 ≤ (w1.setCell ⟨w.heap.size + 1 + 1, 0, none⟩ (.int .i64 c.toNat)).heap.size := by simpa [World.setCell] using hsz1
      go_wp2_with fail
      refine (shapeOf_any c.toNat 0 hc0 (by omega) (by omega) (by omega) _).mono ?_
      rintro e wb ⟨rfl, hwb⟩
      rw [← hwb] at hPb hRb hGb hresb hszb
      clear hwb p0 pf hP1 hR1 hG1 hg1 hsz1 hz1 hz2 hz3
      have hz1 : w.heap.size + 1 + 1 < wb.heap.size := by omega
      have hSb : Sents wb := hS.kept hGb hrb
      have hs0 : (0 : Int) ≤ c.toNat * 16 := by omega
      have hs1 : (c.toNat : Int) * 16 < 80 := by omega
      go_wp2_with fail
      refine (cells_any rb (w.heap.size + 1 + 1) 38 { sh with w := c.toNat } [.int .i64 0] (c.toNat * 16) hs0 hs1 false l1 _ hRb hPb hSb hrb (by omega) (by omega)).mono ?_
      rintro e w2 ⟨hgot, hT⟩
      have hG2 : w.grownBy w2 (some rb) := grownBy_of_two hGb hT (by omega)
      have hres := (hT.block (w.heap.size + 1) (by omega) (by omega) (by omega)).trans hresb
      have hsz2 : w.heap.size + 3 ≤ w2.heap.size := Nat.le_trans hszb hT.size
      have hszb0 := hszb
      clear hPb hRb hGb hresb hszb hSb hz1 hT
      cases hc : rCells (c.toNat * 16) false ((c.toNat : Int) * 16 / 16).toNat 0 { sh with w := c.toNat } l1 with
      | none =>
        have HB : Hid (rEntry sh 0 (c :: l1) = none) := by show _ = _; rw [HE.out]; unfold rBody; rw [hc]
        rw [hc] at hgot
        obtain ⟨⟨t, x, rfl, hbd⟩, r1, hP1⟩ := hgot
        have HBd : Hid (Bd w2 (w.heap.size + 3) 1 (.iface t x)) := hbd.mono hszb0 (Nat.le_refl _)
        clear hbd
        obtain ⟨bc, bf⟩ := block_facts hres
        obtain ⟨pc, pf⟩ := hP1.facts
        have b0 := bc 0
        have b1 := bc 1
        have b2 := bc 2
        have b3 := bc 3
        have b4 := bc 4
        have b5 := bc 5
        have b6 := bc 6
        have b7 := bc 7
        have b8 := bc 8
        have b9 := bc 9
        have b10 := bc 10
        have b11 := bc 11
        have b12 := bc 12
        have b13 := bc 13
        have p0 := pc 0
        have p1 := pc 1
        have p2 := pc 2
        have p3 := pc 3
        have p4 := pc 4
        have p5 := pc 5
        have p6 := pc 6
        have p7 := pc 7
        have p8 := pc 8
        have p9 := pc 9
        have p10 := pc 10
        have p11 := pc 11
        have p12 := pc 12
        have p13 := pc 13
        simp [R.cells, V.cells] at b0 b1 b2 b3 b4 b5 b6 b7 b8 b9 b10 b11 b12 b13 p0 p1 p2 p3 p4 p5 p6 p7 p8 p9 p10 p11 p12 p13
        clear bc pc hres
        go_wp2
        refine bodyPost_ret (v := .tuple #[(⟨r1, 0⟩ : E).val, .iface t x]) (by simp [results, Tryd.results45, go_sem, b0, b1, b2, b3, b4, b5, b6, b7, b8, b9, b10, b11, b12, b13]) rfl ?_
        exact ⟨Got.bad (z := fun v => ∃ x : E, v = x.val) HB.out ⟨_, rfl⟩ t x (by refine Bd.mono (Nat.zero_le (w.heap.size + 3)) (Nat.le_refl _) ?_; repeat (first | (refine Bd.set ?_ (by omega) _ _) | exact HBd.out)), by repeat (first | (refine grownBy_setNew ?_ (by omega) _ _) | exact hG2)⟩
      | some p =>
        obtain ⟨r1, l2⟩ := p
        rw [hc] at hgot
        obtain ⟨rfl, hR2, hP2⟩ := hgot
        have hS2 : Sents w2 := hS.kept hG2 hrb
        go_wp2_with fail
        refine (number_any rb l2 _ hR2 hS2.e1 hS2.e3 hrb).mono ?_
        rintro e w3 ⟨hgot2, hg3⟩
        have hG3' : w.grownBy w3 (some rb) := grownBy_step hG2 hg3 (.inl rfl)
        have hP3 : RowBlk w3 (w.heap.size + 1 + 1) 38 r1 [.int .i64 0] := (hg3.block _ (by omega) (by simp; omega)).trans hP2
        have hres3 := (hg3.block (w.heap.size + 1) (by omega) (by simp; omega)).trans hres
        obtain ⟨bc, bf⟩ := block_facts hres3
        obtain ⟨pc, pf⟩ := hP3.facts
        have b0 := bc 0
        have b1 := bc 1
        have b2 := bc 2
        have b3 := bc 3
        have b4 := bc 4
        have b5 := bc 5
        have b6 := bc 6
        have b7 := bc 7
        have b8 := bc 8
        have b9 := bc 9
        have b10 := bc 10
        have b11 := bc 11
        have b12 := bc 12
        have b13 := bc 13
        have p0 := pc 0
        have p1 := pc 1
        have p2 := pc 2
        have p3 := pc 3
        have p4 := pc 4
        have p5 := pc 5
        have p6 := pc 6
        have p7 := pc 7
        have p8 := pc 8
        have p9 := pc 9
        have p10 := pc 10
        have p11 := pc 11
        have p12 := pc 12
        have p13 := pc 13
        simp [R.cells, V.cells] at b0 b1 b2 b3 b4 b5 b6 b7 b8 b9 b10 b11 b12 b13 p0 p1 p2 p3 p4 p5 p6 p7 p8 p9 p10 p11 p12 p13
        clear bc pc hres hres3
        cases hn : rNum 10 0 0 l2 with
        | none =>
          have HB : Hid (rEntry sh 0 (c :: l1) = none) := by show _ = _; rw [HE.out]; unfold rBody; rw [hc]; simp only [hn]
          rw [hn] at hgot2
          obtain ⟨v, t, x, rfl, rfl, hbd⟩ := hgot2
          have HLf : Hid (Lf (.iface t x)) := hbd.zero
          clear hbd
          go_wp2
          refine bodyPost_ret (v := .tuple #[(⟨r1, 0⟩ : E).val, .iface t x]) (by simp [results, Tryd.results45, go_sem, b0, b1, b2, b3, b4, b5, b6, b7, b8, b9, b10, b11, b12, b13]) rfl ?_
          exact ⟨Got.bad (z := fun v => ∃ x : E, v = x.val) HB.out ⟨_, rfl⟩ t x (HLf.out.bd _ _ _), by repeat (first | (refine grownBy_setNew ?_ (by omega) _ _) | exact hG3')⟩
        | some q =>
          obtain ⟨u, l3⟩ := q
          have HB : Hid (rEntry sh 0 (c :: l1) = some (⟨r1, unzz u⟩, l3)) := by show _ = _; rw [HE.out]; unfold rBody; rw [hc]; simp only [hn]
          rw [hn] at hgot2
          obtain ⟨rfl, hR3'⟩ := hgot2
          go_wp2
          refine bodyPost_ret (v := .tuple #[(⟨r1, unzz u⟩ : E).val, .nilIface]) (by simp [results, Tryd.results45, go_sem, b0, b1, b2, b3, b4, b5, b6, b7, b8, b9, b10, b11, b12, b13]) rfl ?_
          exact ⟨Got.good HB.out (by repeat (first | (refine Rd.set ?_ (by omega) _ _) | exact hR3')), by repeat (first | (refine grownBy_setNew ?_ (by omega) _ _) | exact hG3')⟩
end Go.Proofs.YtcbjoogkodcgkaaDoor
