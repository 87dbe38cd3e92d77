/-
  Walks: code.shape, code.shapeOf, code.appendValue, code.appendCells.
-/
import Derived.Test.YtcbjoogkodcgkaaDoorCmp2
import Derived.Test.YtcbjoogkodcgkaaDoorNum
import Derived.Lib.AppendStr
import Derived.Deep.RegionLawGrows
namespace Go.Proofs.YtcbjoogkodcgkaaDoor
open Go.RowKit
set_option maxHeartbeats 400000
set_option maxRecDepth 100000

theorem width_any (s : Int) (h0 : 0 ≤ s) (h1 : s < 256) (w : World) :
    Calls Tryd.prog 43 #[.int .u8 s] w fun e w' => e = .returned (.int .i64 (s / 16)) ∧ w' = w := by
  go_enter Tryd.func43, Tryd.ntmps43
  go_wp2
  go_ret
  exact ⟨rfl, rfl⟩

/-- Is the column's bit set? -/
def bitAt (s : Int) (i : Nat) : Bool := s / 2 ^ i % 2 == 1

theorem same_any (s : Int) (i : Nat) (h0 : 0 ≤ s) (h1 : s < 256) (hi : (i : Int) < 4) (w : World) :
    Calls Tryd.prog 51 #[.int .u8 s, .int .i64 i] w fun e w' => e = .returned (.bool (bitAt s i)) ∧ w' = w := by
  have hi0 : (0 : Int) ≤ i := by omega
  go_enter Tryd.func51, Tryd.ntmps51
  go_wp2
  go_ret
  refine ⟨?_, rfl⟩
  have hq : 0 ≤ s / 2 ^ i ∧ s / 2 ^ i < 256 := by
    have hp : (0 : Int) < 2 ^ i := Int.pow_pos (by decide)
    exact ⟨Int.ediv_nonneg h0 (Int.le_of_lt hp), Int.lt_of_le_of_lt (Int.ediv_le_self _ h0) h1⟩
  have hand : bits .and .u8 (s / 2 ^ i) 1 = s / 2 ^ i % 2 := bits_mask .u8 8 (by decide) wraps_u8 1 (by decide) _ hq.1 hq.2
  simp [bitAt, hand]

theorem shapeOf_any (s i : Int) (h0 : 0 ≤ s) (h1 : s < 16) (hi : 0 ≤ i) (hi' : i < 16) (w : World) :
    Calls Tryd.prog 38 #[.int .i64 s, .int .u8 i] w fun e w' => e = .returned (.int .u8 (s * 16 + i)) ∧ w' = w := by
  have hor : bits .or .u8 (s * 16) i = s * 16 + i := bits_join .u8 8 (by decide) wraps_u8 4 (s * 16) i (by omega) (by omega) (by omega) hi (by omega) (by omega)
  go_enter Tryd.func38, Tryd.ntmps38
  go_wp2
  go_ret
  exact ⟨rfl, rfl⟩

/-- What a value is written as. -/
def encV (v : V) : List UInt8 :=
  if v.k = 1 then [(1 + v.i).toNat.toUInt8] else if v.k = 2 then 3 :: Lib.uvarint (Lib.zigzag v.i) else if v.k = 3 then (4 + v.t.size).toUInt8 :: v.t.data.toList else [0]

def okV (v : V) : Bool :=
  if v.k = 0 then v.i == 0 && v.t.size == 0 else if v.k = 1 then (v.i == 0 || v.i == 1) && v.t.size == 0 else if v.k = 2 then v.t.size == 0 else if v.k = 3 then v.i == 0 && decide (v.t.size ≤ 16) else false

structure V.rng (v : V) : Prop where
  k0 : -9223372036854775808 ≤ v.k
  k1 : v.k ≤ 9223372036854775807
  i0 : -9223372036854775808 ≤ v.i
  i1 : v.i ≤ 9223372036854775807

theorem appendValue1 (v : V) (hk : v.k = 1) (hi : v.i = 0 ∨ v.i = 1) (base g0 L0 cap0 : Nat) (bs : List UInt8) (w : World) (hown : Buf w base g0 L0 cap0 bs) (hL : L0 ≤ 1000000) (hb : base ≤ w.heap.size) :
    Calls Tryd.prog 52 #[.slice (some ⟨g0, 0, none⟩) L0 cap0, v.val] w fun e w' => ∃ g L cap, e = .returned (.slice (some ⟨g, 0, none⟩) L cap) ∧ Buf w' base g L cap (bs ++ encV v) ∧ w.grownBy w' (some g0) ∧ (g = g0 ∨ w.heap.size ≤ g) := by
  obtain ⟨k, i, t⟩ := v
  simp only at hk hi
  subst hk
  have hi0 : 0 ≤ i := by omega
  have hi1 : i ≤ 1 := by omega
  have HL : Hid (L0 ≤ 1000000) := hL
  clear hL hi
  go_enter Tryd.func52, Tryd.ntmps52
  go_wp2_with (first
    | (at_builtin; refine wpList_push _ rfl (.tmp 9) (.tmp 14) rfl base g0 L0 cap0 bs rfl (World.ownsRow.alloc (World.ownsRow.alloc hown _) _) (w.heap.size + 1) (1 + i) rfl ?_ ?_ ?_ ?_ ?_ ?_))
  · simp [go_sem]
  · omega
  · omega
  · have := HL.out; omega
  · simp; omega
  · intro g' cap' w' hB' hgr' hloc'
    go_wp2
    go_ret
    refine ⟨g', L0 + 1, cap', rfl, by simpa [encV] using hB', grownBy_step (World.grownBy_alloc w _ _) (grownBy_step (World.grownBy_alloc _ _ _) hgr' (.inl rfl)) (.inl rfl), ?_⟩
    rcases hloc' with rfl | h
    · exact .inl rfl
    · right; have h2 := World.size_alloc w; first | omega | (simp at h; omega)

theorem appendValue0 (v : V) (hk : v.k = 0) (base g0 L0 cap0 : Nat) (bs : List UInt8) (w : World) (hown : Buf w base g0 L0 cap0 bs) (hL : L0 ≤ 1000000) (hb : base ≤ w.heap.size) :
    Calls Tryd.prog 52 #[.slice (some ⟨g0, 0, none⟩) L0 cap0, v.val] w fun e w' => ∃ g L cap, e = .returned (.slice (some ⟨g, 0, none⟩) L cap) ∧ Buf w' base g L cap (bs ++ encV v) ∧ w.grownBy w' (some g0) ∧ (g = g0 ∨ w.heap.size ≤ g) := by
  obtain ⟨k, i, t⟩ := v
  simp only at hk
  subst hk
  have HL : Hid (L0 ≤ 1000000) := hL
  clear hL
  go_enter Tryd.func52, Tryd.ntmps52
  go_wp2_with (first
    | (at_builtin; refine wpList_push _ rfl (.tmp 37) (.tmp 38) rfl base g0 L0 cap0 bs rfl (World.ownsRow.alloc (World.ownsRow.alloc hown _) _) (w.heap.size + 1) 0 rfl ?_ ?_ ?_ ?_ ?_ ?_))
  · simp [go_sem]
  · omega
  · omega
  · have := HL.out; omega
  · simp; omega
  · intro g' cap' w' hB' hgr' hloc'
    go_wp2
    go_ret
    refine ⟨g', L0 + 1, cap', rfl, by simpa [encV] using hB', grownBy_step (World.grownBy_alloc w _ _) (grownBy_step (World.grownBy_alloc _ _ _) hgr' (.inl rfl)) (.inl rfl), ?_⟩
    rcases hloc' with rfl | h
    · exact .inl rfl
    · right; have h2 := World.size_alloc w; first | omega | (simp at h; omega)

theorem appendValue2 (v : V) (hk : v.k = 2) (hi0 : -9223372036854775808 ≤ v.i) (hi1 : v.i ≤ 9223372036854775807) (base g0 L0 cap0 : Nat) (bs : List UInt8) (w : World) (hown : Buf w base g0 L0 cap0 bs) (hL : L0 ≤ 999999) (hb : base ≤ w.heap.size) :
    Calls Tryd.prog 52 #[.slice (some ⟨g0, 0, none⟩) L0 cap0, v.val] w fun e w' => ∃ g L cap, e = .returned (.slice (some ⟨g, 0, none⟩) L cap) ∧ Buf w' base g L cap (bs ++ encV v) ∧ w.grownBy w' (some g0) ∧ (g = g0 ∨ w.heap.size ≤ g) := by
  obtain ⟨k, i, t⟩ := v
  simp only at hk hi0 hi1
  subst hk
  have HL : Hid (L0 ≤ 999999) := hL
  have HI : Hid (-9223372036854775808 ≤ i ∧ i ≤ 9223372036854775807) := ⟨hi0, hi1⟩
  clear hL hi0 hi1
  have hg0 : g0 < w.heap.size := (World.ownsRow.lt hown g0 rfl).2
  have hne : g0 ≠ w.heap.size := by omega
  go_enter Tryd.func52, Tryd.ntmps52
  go_wp2
  have hB0 : ∀ o1 o2, Buf ((w.alloc o1).alloc o2).drew base g0 L0 cap0 bs := fun o1 o2 => World.ownsRow.alloc (World.ownsRow.alloc hown o1) o2
  go_region_held3 (fun w' => w'.cell? ⟨w.heap.size, 1, none⟩ = some (.int .i64 i))
    (simp [go_sem, *])
    (first
      | (refine step_push _ rfl (.tmp 18) (.tmp 19) rfl base g0 L0 cap0 bs rfl (hB0 _ _) (w.heap.size + 1) 3 rfl (by simp [go_sem]) (by decide) (by decide) (by have := HL.out; omega) (by simp; omega) ?_; intro g' cap' w1 hB1 hgr1 hloc1; have hC1 : w1.cell? ⟨w.heap.size, 1, none⟩ = some (.int .i64 i) := (hgr1.cell (by simp [go_sem]) (by simp; omega)))
      | (go_at_call 39; refine (appendNumber_any base g' (L0 + 1) cap' _ i HI.out.1 HI.out.2 _ hB1 ?_ ?_).mono ?_; (have := HL.out; omega); (have := hgr1.size; simp at this; omega); rintro e w2 ⟨g2, L2, cap2, rfl, hB2, hgr2, hloc2⟩; have hC2 : w2.cell? ⟨w.heap.size, 1, none⟩ = some (.int .i64 i) := (hgr2.cell hC1 (by rcases hloc1 with h | h; (subst h; simp; omega); (simp at h ⊢; omega)))))
  go_wp2
  go_ret
  have l1 : g' = g0 ∨ w.heap.size ≤ g' := by rcases hloc1 with h | h; exact .inl h; right; simp at h; omega
  refine ⟨g2, L2, cap2, rfl, by simpa [encV] using hB2, grownBy_step (grownBy_step (grownBy_drew (grownBy_al (grownBy_al (grownBy_refl w _) _) _)) hgr1 (.inl rfl)) hgr2 l1, ?_⟩
  rcases hloc2 with h | h
  · subst h; exact l1
  · right; have := hgr1.size; simp at this; omega

theorem appendValue3 (v : V) (hk : v.k = 3) (ht : v.t.size ≤ 16) (base g0 L0 cap0 : Nat) (bs : List UInt8) (w : World) (hown : Buf w base g0 L0 cap0 bs) (hL : L0 ≤ 1000000) (hb : base ≤ w.heap.size) :
    Calls Tryd.prog 52 #[.slice (some ⟨g0, 0, none⟩) L0 cap0, v.val] w fun e w' => ∃ g L cap, e = .returned (.slice (some ⟨g, 0, none⟩) L cap) ∧ Buf w' base g L cap (bs ++ encV v) ∧ w.grownBy w' (some g0) ∧ (g = g0 ∨ w.heap.size ≤ g) := by
  obtain ⟨k, i, t⟩ := v
  simp only at hk ht
  subst hk
  have HL : Hid (L0 ≤ 1000000) := hL
  clear hL
  have hti : (t.size : Int) ≤ 16 := by omega
  have hw1 : IntKind.u8.wrap (t.size : Int) = t.size := by rw [IntKind.wrap_u8]; omega
  have hw2 : IntKind.u8.wrap (4 + (t.size : Int)) = 4 + t.size := by rw [IntKind.wrap_u8]; omega
  have hg0 : g0 < w.heap.size := (World.ownsRow.lt hown g0 rfl).2
  have hne : g0 ≠ w.heap.size := by omega
  go_enter Tryd.func52, Tryd.ntmps52
  go_wp2
  have hB0 : ∀ o1 o2, Buf ((w.alloc o1).alloc o2).drew base g0 L0 cap0 bs := fun o1 o2 => World.ownsRow.alloc (World.ownsRow.alloc hown o1) o2
  go_region_held3 (fun w' => w'.cell? ⟨w.heap.size, 2, none⟩ = some (.string t))
    (simp [go_sem, *])
    (first
      | (refine step_push _ rfl (.tmp 26) (.tmp 32) rfl base g0 L0 cap0 bs rfl (hB0 _ _) (w.heap.size + 1) (4 + t.size) rfl (by simp [go_sem]) (by omega) (by omega) (by have := HL.out; omega) (by simp; omega) ?_; intro g' cap' w1 hB1 hgr1 hloc1; have hC1 : w1.cell? ⟨w.heap.size, 2, none⟩ = some (.string t) := (hgr1.cell (by simp [go_sem]) (by simp; omega)))
      | (refine step_pushStr _ rfl (.tmp 33) (.tmp 35) rfl base g' (L0 + 1) cap' _ rfl hB1 t rfl (by have := HL.out; omega) (by have := hgr1.size; simp at this; omega) ?_; intro g2 cap2 w2 hB2 hgr2 hloc2; have hC2 : w2.cell? ⟨w.heap.size, 2, none⟩ = some (.string t) := (hgr2.cell hC1 (by rcases hloc1 with h | h; (subst h; simp; omega); (simp at h ⊢; omega)))))
  go_wp2
  go_ret
  have l1 : g' = g0 ∨ w.heap.size ≤ g' := by rcases hloc1 with h | h; exact .inl h; right; simp at h; omega
  have e1 : ((4 : Int) + (t.size : Int)).toNat = 4 + t.size := by omega
  refine ⟨g2, L0 + 1 + t.size, cap2, rfl, by simpa [encV, e1] using hB2, grownBy_step (grownBy_step (grownBy_drew (grownBy_al (grownBy_al (grownBy_refl w _) _) _)) hgr1 (.inl rfl)) hgr2 l1, ?_⟩
  rcases hloc2 with h | h
  · subst h; exact l1
  · right; have := hgr1.size; simp at this; omega

theorem okV_cases {v : V} (h : okV v = true) : (v.k = 0 ∧ v.i = 0 ∧ v.t.size = 0) ∨ (v.k = 1 ∧ (v.i = 0 ∨ v.i = 1) ∧ v.t.size = 0) ∨ (v.k = 2 ∧ v.t.size = 0) ∨ (v.k = 3 ∧ v.i = 0 ∧ v.t.size ≤ 16) := by
  unfold okV at h
  by_cases h0 : v.k = 0
  · simp [h0] at h; exact .inl ⟨h0, h.1, by rw [h.2]; rfl⟩
  by_cases h1 : v.k = 1
  · simp [h1] at h; exact .inr (.inl ⟨h1, h.1, by rw [h.2]; rfl⟩)
  by_cases h2 : v.k = 2
  · simp [h2] at h; exact .inr (.inr (.inl ⟨h2, by rw [h]; rfl⟩))
  by_cases h3 : v.k = 3
  · simp [h3] at h; exact .inr (.inr (.inr ⟨h3, h.1, h.2⟩))
  simp [h0, h1, h2, h3] at h

theorem appendValue_any (v : V) (hok : okV v = true) (hi0 : -9223372036854775808 ≤ v.i) (hi1 : v.i ≤ 9223372036854775807) (base g0 L0 cap0 : Nat) (bs : List UInt8) (w : World) (hown : Buf w base g0 L0 cap0 bs) (hL : L0 ≤ 999999) (hb : base ≤ w.heap.size) :
    Calls Tryd.prog 52 #[.slice (some ⟨g0, 0, none⟩) L0 cap0, v.val] w fun e w' => ∃ g L cap, e = .returned (.slice (some ⟨g, 0, none⟩) L cap) ∧ Buf w' base g L cap (bs ++ encV v) ∧ w.grownBy w' (some g0) ∧ (g = g0 ∨ w.heap.size ≤ g) := by
  rcases okV_cases hok with h | h | h | h
  · exact appendValue0 v h.1 base g0 L0 cap0 bs w hown (by omega) hb
  · exact appendValue1 v h.1 h.2.1 base g0 L0 cap0 bs w hown (by omega) hb
  · exact appendValue2 v h.1 hi0 hi1 base g0 L0 cap0 bs w hown hL hb
  · exact appendValue3 v h.1 h.2.2 base g0 L0 cap0 bs w hown (by omega) hb

theorem encV_length (v : V) (hok : okV v = true) (hi0 : -9223372036854775808 ≤ v.i) (hi1 : v.i ≤ 9223372036854775807) : (encV v).length ≤ 17 := by
  have hz := Lib.uvarint_length64 (Lib.zigzag_lt hi0 hi1)
  rcases okV_cases hok with h | h | h | h
  · simp [encV, h.1]
  · simp [encV, h.1]
  · simp [encV, h.1]; omega
  · have : v.t.data.size = v.t.size := rfl
    simp [encV, h.1]; omega

end Go.Proofs.YtcbjoogkodcgkaaDoor
