/-
  Walks: code.appendCells.
-/
import Derived.Test.YtcbjoogkodcgkaaDoorShape
namespace Go.Proofs.YtcbjoogkodcgkaaDoor
open Go.RowKit
set_option maxHeartbeats 1000000
set_option maxRecDepth 100000

/-- What the values of some columns are written as: n columns from the i-th on. -/
def encCells (r : R) (s : Int) (same : Bool) : Nat → Nat → List UInt8
  | 0, _ => []
  | n + 1, i => (if bitAt s i = same then encV (r.at i) else []) ++ encCells r s same n (i + 1)

/-- All four cells of a row are values. -/
structure Fine (r : R) : Prop where
  ok : ∀ i, i < 4 → okV (r.at i) = true
  i0 : ∀ i, i < 4 → -9223372036854775808 ≤ (r.at i).i
  i1 : ∀ i, i < 4 → (r.at i).i ≤ 9223372036854775807

theorem encCells_length (r : R) (hr : Fine r) (s : Int) (same : Bool) : ∀ n i, n + i ≤ 4 → (encCells r s same n i).length ≤ 17 * n
  | 0, i, _ => by simp [encCells]
  | n + 1, i, h => by
    have h1 := encCells_length r hr s same n (i + 1) (by omega)
    have h2 := encV_length (r.at i) (hr.ok i (by omega)) (hr.i0 i (by omega)) (hr.i1 i (by omega))
    simp only [encCells, List.length_append]
    split
    · omega
    · simp; omega

theorem appendCells_any (r : R) (hr : Fine r) (s : Int) (hs0 : 0 ≤ s) (hs1 : s < 80) (same : Bool) (base g0 L0 cap0 : Nat) (bs : List UInt8) (w : World) (hown : Buf w base g0 L0 cap0 bs) (hL : L0 ≤ 900000) (hb : base ≤ w.heap.size) :
    Calls Tryd.prog 37 #[.slice (some ⟨g0, 0, none⟩) L0 cap0, r.val, .int .u8 s, .bool same] w fun e w' => ∃ g L cap, e = .returned (.slice (some ⟨g, 0, none⟩) L cap) ∧ Buf w' base g L cap (bs ++ encCells r s same (s / 16).toNat 0) ∧ w.grownBy w' (some g0) ∧ (g = g0 ∨ w.heap.size ≤ g) := by
  obtain ⟨m, hm⟩ : ∃ m : Nat, s / 16 = m := ⟨(s / 16).toNat, by omega⟩
  have hm4 : m ≤ 4 := by omega
  have e0 : (s / 16).toNat = m := by omega
  rw [e0]; clear e0
  have HL : Hid (L0 ≤ 900000) := hL
  clear hL
  have hg0 : g0 < w.heap.size := (World.ownsRow.lt hown g0 rfl).2
  go_enter Tryd.func37, Tryd.ntmps37
  go_wp2_with (first
    | (go_at_call 43; refine (width_any s hs0 (by omega) _).mono ?_; rintro e w' ⟨rfl, rfl⟩))
  go_loopw [0, 12] (fun v i wr => ∃ (k g L cap : Nat) (bs' : List UInt8), v = .slice (some ⟨g, 0, none⟩) L cap ∧ i = .int .i64 k ∧ k ≤ m ∧ Buf wr base g L cap bs' ∧ bs' ++ encCells r s same (m - k) k = bs ++ encCells r s same m 0 ∧ L ≤ 900000 + 17 * k ∧ w.grownBy wr (some g0) ∧ (g = g0 ∨ w.heap.size < g) ∧ RowAt wr w.heap.size 0 r ∧ w.heap.size < wr.heap.size) (fun _ i _ => m - (intOf i).toNat)
  case atStart => exact ⟨0, g0, L0, cap0, bs, rfl, rfl, Nat.zero_le _, World.ownsRow.alloc hown _, rfl, by have := HL.out; omega, grownBy_al (grownBy_refl w _) _, .inl rfl, RowAt.box w r _, by simp⟩
  case round =>
    obtain ⟨k, g, L, cap, bs', rfl, rfl, hk, hB, hbs, hLk, hgr, hloc, hX, hsz⟩ := hrel
    have HBS : Hid (bs' ++ encCells r s same (m - k) k = bs ++ encCells r s same m 0) := hbs
    have HLK : Hid (L ≤ 900000 + 17 * k) := hLk
    clear hbs hLk
    by_cases hlt : k < m
    · have hk4 : k < 4 := by omega
      have hki : (k : Int) < 4 := by omega
      have hk0 : (0 : Int) ≤ k := by omega
      have hkm : (k : Int) < m := by omega
      have a0 : wr.cell? ⟨w.heap.size, 1 + k * 3, none⟩ = some (.int .i64 (r.at k).k) := by have := hX.ck k hk4; rwa [Nat.zero_add] at this
      have a1 : wr.cell? ⟨w.heap.size, 1 + k * 3 + 1, none⟩ = some (.int .i64 (r.at k).i) := by have := hX.ci k hk4; rwa [Nat.zero_add] at this
      have a2 : wr.cell? ⟨w.heap.size, 1 + k * 3 + 2, none⟩ = some (.string (r.at k).t) := by have := hX.ct k hk4; rwa [Nat.zero_add] at this
      by_cases hbit : bitAt s k = same
      · have hbq : (bitAt s k == same) = true := by simpa using hbit
        have HBIT : Hid (bitAt s k = same) := hbit
        clear hbit
        go_wp2_with (first
          | (go_at_call 51; refine (same_any s k hs0 (by omega) hki _).mono ?_; rintro e wr ⟨rfl, rfl⟩)
          | (go_at_call 52; refine (appendValue_any (r.at k) (hr.ok k hk4) (hr.i0 k hk4) (hr.i1 k hk4) base g L cap bs' _ hB (by have := HLK.out; omega) (by have := hgr.size; omega)).mono ?_; rintro e w2 ⟨g2, L2, cap2, rfl, hB2, hgr2, hloc2⟩))
        have hlen := hB2.len
        have hlen1 := hB.len
        have hvl := encV_length (r.at k) (hr.ok k hk4) (hr.i0 k hk4) (hr.i1 k hk4)
        go_roundw
        case rel =>
          refine ⟨k + 1, g2, L2, cap2, _, rfl, by go_num, by omega, hB2, ?_, ?_, grownBy_step hgr hgr2 (by omega), by rcases hloc2 with h | h <;> omega, ?_, by have := hgr2.size; omega⟩
          · have e := HBS.out
            rw [show m - k = (m - (k + 1)) + 1 from by omega] at e
            simp only [encCells, HBIT.out, if_true] at e
            rw [← e, List.append_assoc]
          · have := HLK.out
            rw [List.length_append] at hlen
            omega
          · have hC : ∀ b o, b < w.heap.size + 1 → b ≠ g → w2.cell? ⟨b, o, none⟩ = wr.cell? ⟨b, o, none⟩ := fun b o hb hne => World.cell?_of_block (w := wr) (a := ⟨b, o, none⟩) (hgr2.block b (by omega) (by simpa using hne))
            have hne : w.heap.size ≠ g := by omega
            exact ⟨(hC _ _ (by omega) hne).trans hX.w0, fun i hi => (hC _ _ (by omega) hne).trans (hX.ck i hi), fun i hi => (hC _ _ (by omega) hne).trans (hX.ci i hi), fun i hi => (hC _ _ (by omega) hne).trans (hX.ct i hi)⟩
        case measure => simp [intOf]; omega
      · have hbq : (bitAt s k == same) = false := by simpa using hbit
        have HBIT : Hid (¬ bitAt s k = same) := hbit
        clear hbit
        go_wp2_with (first
          | (go_at_call 51; refine (same_any s k hs0 (by omega) hki _).mono ?_; rintro e wr ⟨rfl, rfl⟩))
        go_roundw
        case rel =>
          refine ⟨k + 1, g, L, cap, bs', rfl, by go_num, by omega, hB, ?_, by have := HLK.out; omega, hgr, hloc, hX, hsz⟩
          have e := HBS.out
          rw [show m - k = (m - (k + 1)) + 1 from by omega] at e
          simp only [encCells, HBIT.out, if_false, List.nil_append] at e
          exact e
        case measure => simp [intOf]; omega
    · have hkm : (m : Int) ≤ k := by omega
      have Hkm : Hid (k = m) := by show k = m; omega
      go_wp2
      go_ret
      refine ⟨g, L, cap, rfl, ?_, hgr, by omega⟩
      have e := HBS.out
      rw [Hkm.out, Nat.sub_self] at e
      simp only [encCells, List.append_nil] at e
      rw [← e]
      exact hB
end Go.Proofs.YtcbjoogkodcgkaaDoor
