/-
  Walks: code.appendEntries.
-/
import Derived.Test.YtcbjoogkodcgkaaDoorFind
namespace Go.Proofs.YtcbjoogkodcgkaaDoor
open Go.RowKit
set_option maxHeartbeats 1000000
set_option maxRecDepth 100000

def numB (n : Int) : List UInt8 := Lib.uvarint (Lib.zigzag n)
def encE (s : Int) (e : E) : List UInt8 :=
  if s = 0 then e.r.w.toNat.toUInt8 :: (encCells e.r (e.r.w * 16) false e.r.w.toNat 0 ++ numB e.n) else encCells e.r s false (s / 16).toNat 0 ++ numB e.n
def encAll (s : Int) (l : List E) : List UInt8 := (l.map (encE s)).flatten
def encL (s : Int) (f : R) (l : List E) : List UInt8 := s.toNat.toUInt8 :: ((if s = 0 then [] else encCells f s true (s / 16).toNat 0) ++ encAll s l)

/-- An entry that may be. -/
structure EOk (e : E) : Prop where
  w1 : 1 ≤ e.r.w
  w4 : e.r.w ≤ 4
  fine : Fine e.r
  n0 : -9223372036854775808 ≤ e.n
  n1 : e.n ≤ 9223372036854775807

theorem numB_length (n : Int) (h0 : -9223372036854775808 ≤ n) (h1 : n ≤ 9223372036854775807) : (numB n).length ≤ 10 := Lib.uvarint_length64 (Lib.zigzag_lt h0 h1)
theorem encAll_snoc (s : Int) (l : List E) (e : E) : encAll s (l ++ [e]) = encAll s l ++ encE s e := by simp [encAll]
theorem shapeL_rng (l : List E) (f : R) (h1 : 1 ≤ f.w) (h4 : f.w ≤ 4) : 0 ≤ shapeL l f ∧ shapeL l f < 80 := by
  unfold shapeL
  have := mask_rng (fun i => decide (i < f.w.toNat) && !dif f l f.w.toNat i)
  split <;> omega

theorem grownBy_of_below {w w1 : World} (h : Below w.heap.size w w1) (r : Option Nat) : w.grownBy w1 r := ⟨h.os, h.tape, h.output, h.size, fun k hk _ => h.block k hk⟩
theorem grownBy_cells {w w1 : World} {g b : Nat} (h : w.grownBy w1 (some g)) (hb : b < w.heap.size) (hne : b ≠ g) : ∀ j, w1.cell? ⟨b, j, none⟩ = w.cell? ⟨b, j, none⟩ :=
  fun j => World.cell?_of_block (w := w) (a := ⟨b, j, none⟩) (h.block b hb (by simpa using hne))
theorem encE_shaped (s : Int) (e : E) (h : s ≠ 0) : encE s e = encCells e.r s false (s / 16).toNat 0 ++ numB e.n := by simp [encE, h]
theorem encE_mixed (e : E) : encE 0 e = e.r.w.toNat.toUInt8 :: (encCells e.r (e.r.w * 16) false e.r.w.toNat 0 ++ numB e.n) := by simp [encE]

theorem len_step {w w' : World} {base g L cap g' L' cap' : Nat} {bs new : List UInt8} {k m : Nat} (h : Buf w base g L cap bs) (h' : Buf w' base g' L' cap' (bs ++ new)) (hn : new.length ≤ k) (hk : k ≤ m) : L' ≤ L + m := by
  have e1 := h.len
  have e2 := h'.len
  rw [List.length_append] at e2
  omega

theorem appendEntries_shaped (l : List E) (b o cap : Nat) (w : World) (hl : ListAt w b o l) (hn : 0 < l.length) (hn2 : l.length ≤ 128) (hok : ∀ e ∈ l, EOk e) (hs : shapeL l l[0].r ≠ 0)
    (base g0 L0 cap0 : Nat) (bs : List UInt8) (hown : Buf w base g0 L0 cap0 bs) (hL : L0 ≤ 1000) (hb : base ≤ w.heap.size) (hbb : b < base) :
    Calls Tryd.prog 23 #[.slice (some ⟨g0, 0, none⟩) L0 cap0, .slice (some ⟨b, o, none⟩) l.length cap] w fun e w' =>
      ∃ g L cap, e = .returned (.slice (some ⟨g, 0, none⟩) L cap) ∧ Buf w' base g L cap (bs ++ encL (shapeL l l[0].r) l[0].r l) ∧ w.grownBy w' (some g0) ∧ (g = g0 ∨ w.heap.size ≤ g) := by
  have hfind := findShape_any l b o cap w hl hn hn2 (fun e he => ⟨(hok e he).w1, (hok e he).w4⟩)
  obtain ⟨f, hf⟩ : ∃ f, l[0] = f := ⟨_, rfl⟩
  have hfok : EOk f := hf ▸ hok _ (List.getElem_mem hn)
  have hrng := shapeL_rng l f.r hfok.w1 hfok.w4
  have hR0 := (hl 0 hn).row
  rw [hf] at hs hfind hR0 ⊢
  obtain ⟨hr0, hr1⟩ := hrng
  generalize shapeL l f.r = S at hs hfind hr0 hr1 ⊢
  have HF : Hid (Calls Tryd.prog 36 #[.slice (some ⟨b, o, none⟩) l.length cap] w fun e w' => e = .returned (.int .u8 S) ∧ Below w.heap.size w w') := hfind
  obtain ⟨n, hN⟩ : ∃ n, l.length = n := ⟨_, rfl⟩
  have HN : Hid (l.length = n) := hN
  rw [hN] at hn2 HF ⊢
  have hni : (0 : Int) < n := by omega
  clear hN hf hfind
  simp only [Nat.zero_mul, Nat.add_zero] at hR0
  have hbl : b < w.heap.size := by omega
  have hg0 : g0 < w.heap.size := (World.ownsRow.lt hown g0 rfl).2
  have hg0b : base ≤ g0 := (World.ownsRow.lt hown g0 rfl).1
  have hSq : (S == 0) = false := by simpa using hs
  go_enter Tryd.func23, Tryd.ntmps23
  obtain ⟨c0, c1, c2, c3, c4, c5, c6, c7, c8, c9, c10, c11, c12⟩ := hR0.flat
  go_wp2_with (first
    | (go_at_call 36; refine HF.out.mono ?_; rintro e w1 ⟨rfl, hB1⟩; have hB1b : Buf w1 base g0 L0 cap0 bs := World.ownsRow.kept hown (grownBy_of_below hB1 none) (.inr (by simp [Value.ownBlock])))
    | (at_builtin; refine wpList_push _ rfl (.tmp 12) (.tmp 14) rfl base g0 L0 cap0 bs rfl (World.ownsRow.alloc hB1b _) w1.heap.size S rfl (by simp [go_sem]) hr0 (by omega) (by omega) (by have := hB1.size; simp; omega) ?_; intro g1 cap1 w2 hB2 hgr2 hloc2; have hgr2' : w.grownBy w2 (some g0) := grownBy_step (grownBy_al (grownBy_of_below hB1 _) _) hgr2 (.inl rfl); have hC2 := grownBy_cells hgr2' hbl (by omega))
    | (go_at_call 37; refine (appendCells_any f.r hfok.fine S hr0 hr1 true base g1 (L0 + 1) cap1 _ _ hB2 (by omega) (by have := hgr2'.size; omega)).mono ?_; rintro e w3 ⟨g3, L3, cap3, rfl, hB3, hgr3, hloc3⟩))
  have hl1 : g1 = g0 ∨ w.heap.size ≤ g1 := by have := hB1.size; have h2 := World.size_alloc w1; rcases hloc2 with h | h; exact .inl h; right; simp at h; omega
  have hgr : w.grownBy w3 (some g0) := grownBy_step hgr2' hgr3 hl1
  have hl3 : g3 = g0 ∨ w.heap.size ≤ g3 := by have := hgr2'.size; rcases hloc3 with h | h <;> omega
  have hlen3 : L3 ≤ 1100 := by
    have e1 := hB3.len
    have e2 := hB2.len
    have e3 := encCells_length f.r hfok.fine S true (S / 16).toNat 0 (by omega)
    rw [List.length_append, e2] at e1
    omega
  have HB : Hid (bs ++ [S.toNat.toUInt8] ++ encCells f.r S true (S / 16).toNat 0 ++ encAll S l = bs ++ encL S f.r l) := by
    show _ = _
    simp [encL, hs]
  clear c0 c1 c2 c3 c4 c5 c6 c7 c8 c9 c10 c11 c12 hC2
  go_loopw [0, 54] (fun v i wr => ∃ (k g L cap : Nat), v = .slice (some ⟨g, 0, none⟩) L cap ∧ i = .int .i64 k ∧ k ≤ n ∧ Buf wr base g L cap (bs ++ [S.toNat.toUInt8] ++ encCells f.r S true (S / 16).toNat 0 ++ encAll S (l.take k)) ∧ L ≤ 1100 + 78 * k ∧ w.grownBy wr (some g0) ∧ (g = g0 ∨ w.heap.size ≤ g)) (fun _ i _ => n - (intOf i).toNat)
  case atStart => exact ⟨0, g3, L3, cap3, rfl, rfl, Nat.zero_le _, by simpa [encAll] using hB3, hlen3, hgr, hl3⟩
  case round =>
    clear hB3 hgr3 hloc3 hB2 hgr2 hloc2 hB1 hB1b hgr2' hgr hl1 hl3 hlen3
    obtain ⟨k, g, L, cap', rfl, rfl, hk, hB, hLk, hgr, hloc⟩ := hrel
    by_cases hlt : k < n
    · have hlt' : k < l.length := by have := HN.out; omega
      have hki : (k : Int) < n := by omega
      have hC := grownBy_cells hgr hbl (by omega)
      have hE := hl k hlt'
      obtain ⟨e, he⟩ : ∃ e, l[k] = e := ⟨_, rfl⟩
      have heok : EOk e := he ▸ hok _ (List.getElem_mem hlt')
      rw [he] at hE
      have HT : Hid (l.take (k + 1) = l.take k ++ [e]) := take_snoc_of hlt' he
      clear he
      obtain ⟨c0, c1, c2, c3, c4, c5, c6, c7, c8, c9, c10, c11, c12⟩ := hE.row.flat
      have c13 := hE.wt
      have hgw : g < wr.heap.size := (World.ownsRow.lt hB g rfl).2
      have hBA : ∀ ob, Buf (wr.alloc ob) base g L cap' _ := fun ob => World.ownsRow.alloc hB ob
      go_wp2_with (first
        | (go_at_call 37; refine (appendCells_any e.r heok.fine S hr0 hr1 false base g L cap' _ _ (hBA _) (by omega) (by have := hgr.size; simp; omega)).mono ?_; rintro ev w4 ⟨g4, L4, cap4, rfl, hB4, hgr4, hloc4⟩; have d13 : w4.cell? ⟨wr.heap.size, 13, none⟩ = some (.int .i64 e.n) := hgr4.cell (by simp [go_sem]) (by simp; omega); have hlen4 : L4 ≤ L + 68 := len_step hB hB4 (encCells_length e.r heok.fine S false (S / 16).toNat 0 (by omega)) (by omega); have hsz4 : wr.heap.size + 1 ≤ w4.heap.size := by have := hgr4.size; simpa using this)
        | (go_at_call 39; refine (appendNumber_any base g4 L4 cap4 _ e.n heok.n0 heok.n1 _ hB4 (by omega) (by have := hgr.size; omega)).mono ?_; rintro ev w5 ⟨g5, L5, cap5, rfl, hB5, hgr5, hloc5⟩))
      have hl4 : g4 = g ∨ wr.heap.size ≤ g4 := by rcases hloc4 with h | h; exact .inl h; right; simp at h; omega
      have hlen5 : L5 ≤ L4 + 10 := len_step hB4 hB5 (numB_length e.n heok.n0 heok.n1) (by omega)
      go_roundw
      case rel =>
        refine ⟨k + 1, g5, L5, cap5, rfl, by go_num, by omega, ?_, by omega, grownBy_step (grownBy_step hgr (grownBy_step (World.grownBy_alloc wr _ _) hgr4 (.inl rfl)) hloc) hgr5 (by have := hgr.size; omega), by have := hgr.size; rcases hloc5 with h | h <;> omega⟩
        rw [HT.out, encAll_snoc, encE_shaped S e hs]
        simpa [numB] using hB5
      case measure => simp [intOf]; omega
    · have hkn : (n : Int) ≤ k := by omega
      have hT : l.take k = l := List.take_of_length_le (by have := HN.out; omega)
      rw [hT] at hB
      clear hT
      go_wp2
      go_ret
      refine ⟨g, L, cap', rfl, ?_, hgr, hloc⟩
      rw [← HB.out]
      exact hB
end Go.Proofs.YtcbjoogkodcgkaaDoor
