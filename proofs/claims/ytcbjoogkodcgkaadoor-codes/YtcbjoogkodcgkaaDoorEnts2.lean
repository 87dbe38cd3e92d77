/-
  Walks: code.appendEntries, rows of several widths.
-/
import Derived.Test.YtcbjoogkodcgkaaDoorEnts
namespace Go.Proofs.YtcbjoogkodcgkaaDoor
open Go.RowKit
set_option maxHeartbeats 1000000
set_option maxRecDepth 100000

theorem RowAt.same {w w' : World} {b o : Nat} {x : R} (h : RowAt w b o x) (hc : ∀ j, w'.cell? ⟨b, j, none⟩ = w.cell? ⟨b, j, none⟩) : RowAt w' b o x :=
  ⟨(hc _).trans h.w0, fun i hi => (hc _).trans (h.ck i hi), fun i hi => (hc _).trans (h.ci i hi), fun i hi => (hc _).trans (h.ct i hi)⟩
theorem EAt.same {w w' : World} {b o : Nat} {x : E} (h : EAt w b o x) (hc : ∀ j, w'.cell? ⟨b, j, none⟩ = w.cell? ⟨b, j, none⟩) : EAt w' b o x := ⟨h.row.same hc, (hc _).trans h.wt⟩

theorem appendEntries_mixed (l : List E) (b o cap : Nat) (w : World) (hl : ListAt w b o l) (hn : 0 < l.length) (hn2 : l.length ≤ 128) (hok : ∀ e ∈ l, EOk e) (hs : shapeL l l[0].r = 0)
    (base g0 L0 cap0 : Nat) (bs : List UInt8) (hown : Buf w base g0 L0 cap0 bs) (hL : L0 ≤ 1000) (hb : base ≤ w.heap.size) (hbb : b < base) :
    Calls Tryd.prog 23 #[.slice (some ⟨g0, 0, none⟩) L0 cap0, .slice (some ⟨b, o, none⟩) l.length cap] w fun e w' =>
      ∃ g L cap, e = .returned (.slice (some ⟨g, 0, none⟩) L cap) ∧ Buf w' base g L cap (bs ++ encL (shapeL l l[0].r) l[0].r l) ∧ w.grownBy w' (some g0) ∧ (g = g0 ∨ w.heap.size ≤ g) := by
  have hfind := findShape_any l b o cap w hl hn hn2 (fun e he => ⟨(hok e he).w1, (hok e he).w4⟩)
  rw [hs] at hfind ⊢
  have HF : Hid (Calls Tryd.prog 36 #[.slice (some ⟨b, o, none⟩) l.length cap] w fun e w' => e = .returned (.int .u8 0) ∧ Below w.heap.size w w') := hfind
  have HB : Hid (bs ++ [(0 : UInt8)] ++ encAll 0 l = bs ++ encL 0 l[0].r l) := by
    show _ = _
    simp [encL]
  generalize encL 0 l[0].r l = RES at HB ⊢
  obtain ⟨n, hN⟩ : ∃ n, l.length = n := ⟨_, rfl⟩
  have HN : Hid (l.length = n) := hN
  rw [hN] at hn2 HF ⊢
  have hni : (0 : Int) < n := by omega
  clear hN hfind hs
  have hbl : b < w.heap.size := by omega
  have hg0 : g0 < w.heap.size := (World.ownsRow.lt hown g0 rfl).2
  have hg0b : base ≤ g0 := (World.ownsRow.lt hown g0 rfl).1
  go_enter Tryd.func23, Tryd.ntmps23
  go_wp2_with (first
    | (go_at_call 36; refine HF.out.mono ?_; rintro e w1 ⟨rfl, hB1⟩; have hB1b : Buf w1 base g0 L0 cap0 bs := World.ownsRow.kept hown (grownBy_of_below hB1 none) (.inr (by simp [Value.ownBlock])))
    | (at_builtin; refine wpList_push _ rfl (.tmp 12) (.tmp 14) rfl base g0 L0 cap0 bs rfl (World.ownsRow.alloc hB1b _) w1.heap.size 0 rfl (by simp [go_sem]) (by omega) (by omega) (by omega) (by have := hB1.size; simp; omega) ?_; intro g1 cap1 w2 hB2 hgr2 hloc2; have hgr2' : w.grownBy w2 (some g0) := grownBy_step (grownBy_al (grownBy_of_below hB1 _) _) hgr2 (.inl rfl)))
  have hl1 : g1 = g0 ∨ w.heap.size ≤ g1 := by have := hB1.size; have h2 := World.size_alloc w1; rcases hloc2 with h | h; exact .inl h; right; simp at h; omega
  go_loopw [0, 20] (fun v i wr => ∃ (k g L cap : Nat), v = .slice (some ⟨g, 0, none⟩) L cap ∧ i = .int .i64 k ∧ k ≤ n ∧ Buf wr base g L cap (bs ++ [(0 : UInt8)] ++ encAll 0 (l.take k)) ∧ L ≤ 1100 + 79 * k ∧ w.grownBy wr (some g0) ∧ (g = g0 ∨ w.heap.size ≤ g)) (fun _ i _ => n - (intOf i).toNat)
  case atStart => exact ⟨0, g1, L0 + 1, cap1, rfl, rfl, Nat.zero_le _, by simpa [encAll] using hB2, by omega, hgr2', hl1⟩
  case round =>
    clear hB2 hgr2 hloc2 hB1 hB1b hgr2' hl1
    obtain ⟨k, g, L, cap', rfl, rfl, hk, hB, hLk, hgr, hloc⟩ := hrel
    by_cases hlt : k < n
    · have hlt' : k < l.length := by have := HN.out; omega
      have hki : (k : Int) < n := by omega
      have hC := grownBy_cells hgr hbl (by omega)
      have hE := hl k hlt'
      obtain ⟨e, he⟩ : ∃ e, l[k] = e := ⟨_, rfl⟩
      have heok : EOk e := he ▸ hok _ (List.getElem_mem hlt')
      rw [he] at hE
      have HT : Hid (l.take (k + 1) = l.take k ++ [e]) := take_snoc_of hlt' he
      clear he
      obtain ⟨c0, c1, c2, c3, c4, c5, c6, c7, c8, c9, c10, c11, c12⟩ := hE.row.flat
      have c13 := hE.wt
      have hgw : g < wr.heap.size := (World.ownsRow.lt hB g rfl).2
      have hBA : ∀ ob ob2, Buf ((wr.alloc ob).alloc ob2) base g L cap' _ := fun ob ob2 => World.ownsRow.alloc (World.ownsRow.alloc hB ob) ob2
      have hw1 := heok.w1
      have hw4 := heok.w4
      have hwr : IntKind.u8.wrap e.r.w = e.r.w := by rw [IntKind.wrap_u8]; omega
      go_wp2_with (first
        | (at_builtin; refine wpList_push _ rfl (.tmp 24) (.tmp 29) rfl base g L cap' _ rfl (hBA _ _) (wr.heap.size + 1) e.r.w rfl (by simp [go_sem]) (by omega) (by omega) (by omega) (by have := hgr.size; simp; omega) ?_; intro g3 cap3 w3 hB3 hgr3 hloc3; have hl3 : g3 = g ∨ wr.heap.size + 2 ≤ g3 := by (rcases hloc3 with h | h; exact .inl h; right; simpa using h)))
      have hE3 : EAt w3 wr.heap.size 0 e := ((EAt.box wr e 38).same (fun j => World.cell?_alloc_lt _ _ ⟨wr.heap.size, j, none⟩ (by simp))).same (grownBy_cells hgr3 (by simp; omega) (by omega))
      obtain ⟨d0, d1, d2, d3, d4, d5, d6, d7, d8, d9, d10, d11, d12⟩ := hE3.row.flat
      have d13 := hE3.wt
      simp only [Nat.zero_add] at d0 d1 d2 d3 d4 d5 d6 d7 d8 d9 d10 d11 d12 d13
      have hsz3 : wr.heap.size + 2 ≤ w3.heap.size := by have := hgr3.size; simpa using this
      have hgne : wr.heap.size ≠ g3 := by omega
      have hB3d : Buf w3.drew base g3 (L + 1) cap3 _ := hB3
      clear c0 c1 c2 c3 c4 c5 c6 c7 c8 c9 c10 c11 c12 c13 hC
      go_region_held3 (fun w' => w'.cell? ⟨wr.heap.size, 0, none⟩ = some (.int .i64 e.r.w) ∧ w'.cell? ⟨wr.heap.size, 1, none⟩ = some (.int .i64 e.r.a.k) ∧ w'.cell? ⟨wr.heap.size, 2, none⟩ = some (.int .i64 e.r.a.i) ∧ w'.cell? ⟨wr.heap.size, 3, none⟩ = some (.string e.r.a.t) ∧ w'.cell? ⟨wr.heap.size, 4, none⟩ = some (.int .i64 e.r.b.k) ∧ w'.cell? ⟨wr.heap.size, 5, none⟩ = some (.int .i64 e.r.b.i) ∧ w'.cell? ⟨wr.heap.size, 6, none⟩ = some (.string e.r.b.t) ∧ w'.cell? ⟨wr.heap.size, 7, none⟩ = some (.int .i64 e.r.c.k) ∧ w'.cell? ⟨wr.heap.size, 8, none⟩ = some (.int .i64 e.r.c.i) ∧ w'.cell? ⟨wr.heap.size, 9, none⟩ = some (.string e.r.c.t) ∧ w'.cell? ⟨wr.heap.size, 10, none⟩ = some (.int .i64 e.r.d.k) ∧ w'.cell? ⟨wr.heap.size, 11, none⟩ = some (.int .i64 e.r.d.i) ∧ w'.cell? ⟨wr.heap.size, 12, none⟩ = some (.string e.r.d.t)) (simp [*])
        (first
          | (go_at_call 38; refine (shapeOf_any e.r.w 0 (by omega) (by omega) (by omega) (by omega) _).mono ?_; rintro ev w' ⟨rfl, rfl⟩)
          | (go_at_call 37; refine (appendCells_any e.r heok.fine (e.r.w * 16) (by omega) (by omega) false base g3 (L + 1) cap3 _ _ hB3d (by omega) (by have := hgr.size; show base ≤ w3.heap.size; omega)).mono ?_; rintro ev w4 ⟨g4, L4, cap4, rfl, hB4, hgr4, hloc4⟩; have hC4 : ∀ j, w4.cell? ⟨wr.heap.size, j, none⟩ = w3.cell? ⟨wr.heap.size, j, none⟩ := fun j => (show w4.cell? ⟨wr.heap.size, j, none⟩ = w3.drew.cell? ⟨wr.heap.size, j, none⟩ from grownBy_cells hgr4 (by show wr.heap.size < w3.heap.size; omega) hgne j)))
      have hm : (e.r.w * 16 / 16).toNat = e.r.w.toNat := by omega
      rw [hm] at hB4
      clear hm
      have f13 : w4.cell? ⟨wr.heap.size, 13, none⟩ = some (.int .i64 e.n) := (hC4 13).trans d13
      have hsz4 : w3.heap.size ≤ w4.heap.size := hgr4.size
      have hlen4 : L4 ≤ L + 1 + 68 := len_step hB3 hB4 (encCells_length e.r heok.fine (e.r.w * 16) false e.r.w.toNat 0 (by omega)) (by omega)
      have hl4 : g4 = g3 ∨ w3.heap.size ≤ g4 := hloc4
      clear d0 d1 d2 d3 d4 d5 d6 d7 d8 d9 d10 d11 d12 d13 hC4
      go_wp2_with (first
        | (go_at_call 39; refine (appendNumber_any base g4 L4 cap4 _ e.n heok.n0 heok.n1 _ hB4 (by omega) (by have := hgr.size; omega)).mono ?_; rintro ev w5 ⟨g5, L5, cap5, rfl, hB5, hgr5, hloc5⟩))
      have hlen5 : L5 ≤ L4 + 10 := len_step hB4 hB5 (numB_length e.n heok.n0 heok.n1) (by omega)
      have G3 : w.grownBy w3 (some g0) := grownBy_step hgr (grownBy_step (grownBy_al (World.grownBy_alloc wr _ _) _) hgr3 (.inl rfl)) hloc
      have G4 : w.grownBy w4 (some g0) := grownBy_step (grownBy_drew G3) hgr4 (by have := hgr.size; omega)
      have G5 : w.grownBy w5 (some g0) := grownBy_step G4 hgr5 (by have := hgr.size; omega)
      go_roundw
      case rel =>
        refine ⟨k + 1, g5, L5, cap5, rfl, by go_num, by omega, ?_, by omega, G5, by have := hgr.size; rcases hloc5 with h | h <;> omega⟩
        rw [HT.out, encAll_snoc, encE_mixed e]
        simpa [numB] using hB5
      case measure => simp [intOf]; omega
    · have hkn : (n : Int) ≤ k := by omega
      have hT : l.take k = l := List.take_of_length_le (by have := HN.out; omega)
      rw [hT] at hB
      clear hT
      go_wp2
      go_ret
      refine ⟨g, L, cap', rfl, ?_, hgr, hloc⟩
      rw [← HB.out]
      exact hB
end Go.Proofs.YtcbjoogkodcgkaaDoor
