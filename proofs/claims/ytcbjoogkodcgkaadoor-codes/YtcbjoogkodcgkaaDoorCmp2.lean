/-
  Walks: lists.compareValues, lists.Compare.
-/
import Derived.Test.YtcbjoogkodcgkaaDoorCmp
namespace Go.Proofs.YtcbjoogkodcgkaaDoor
open Go.RowKit
set_option maxHeartbeats 1000000

def cmpV (x y : V) : Int := or3 (cmpI x.k y.k) (cmpI x.i y.i) (Lib.compareBytes x.t.data.toList y.t.data.toList)

theorem compareValues_any (x y : V) (w : World) :
    Calls Tryd.prog 49 #[x.val, y.val] w fun e w' => e = .returned (.int .i64 (cmpV x y)) ∧ Below w.heap.size w w' := by
  obtain ⟨ak, ai, at_⟩ := x
  obtain ⟨bk, bi, bt⟩ := y
  go_enter Tryd.func49, Tryd.ntmps49
  go_wp2
  go_region_held3 (fun w' => w'.cell? ⟨w.heap.size, 0, none⟩ = some (.int .i64 ak) ∧ w'.cell? ⟨w.heap.size, 1, none⟩ = some (.int .i64 ai) ∧ w'.cell? ⟨w.heap.size, 2, none⟩ = some (.string at_) ∧
      w'.cell? ⟨w.heap.size + 1, 0, none⟩ = some (.int .i64 bk) ∧ w'.cell? ⟨w.heap.size + 1, 1, none⟩ = some (.int .i64 bi) ∧ w'.cell? ⟨w.heap.size + 1, 2, none⟩ = some (.string bt)) (simp [go_sem, World.cell?_alloc_past])
    (first
      | (go_at_call 50; refine (cmpInt_any _ _ _).mono ?_; rintro e w' ⟨rfl, rfl⟩)
      | (go_at_call 57; refine (cmpInt64_any _ _ _).mono ?_; rintro e w' ⟨rfl, rfl⟩)
      | (go_at_call 58; refine (strCompare_any _ _ _).mono ?_; rintro e w' ⟨rfl, rfl⟩)
      | (go_at_call 56; refine (or3_any (w.heap.size + 1 + 1) (cmpI ak bk) (cmpI ai bi) (Lib.compareBytes at_.data.toList bt.data.toList) _ (by simp [go_sem]) (by simp [go_sem]) (by simp [go_sem])).mono ?_; rintro e w' ⟨rfl, rfl⟩))
  go_wp2
  go_ret
  exact ⟨rfl, by repeat (first | exact Below.refl _ _ | apply Below.drew | (refine Below.alloc ?_ (by simp <;> omega) _))⟩

/-- lists.Compare from the i-th value on, n values. -/
def cmpFrom (x y : R) : Nat → Nat → Int
  | 0, _ => cmpI x.w y.w
  | n + 1, i => if cmpV (x.at i) (y.at i) = 0 then cmpFrom x y n (i + 1) else cmpV (x.at i) (y.at i)
def cmpR (x y : R) : Int := cmpFrom x y (min x.w y.w).toNat 0

theorem cmpFrom_hit (x y : R) (n i : Nat) (h : cmpV (x.at i) (y.at i) ≠ 0) : cmpFrom x y (n + 1) i = cmpV (x.at i) (y.at i) := by simp [cmpFrom, h]
theorem cmpFrom_miss (x y : R) (n i : Nat) (h : cmpV (x.at i) (y.at i) = 0) : cmpFrom x y (n + 1) i = cmpFrom x y n (i + 1) := by simp [cmpFrom, h]

/-- The box of a row: its cells, by the value's place. -/
structure RowAt (w : World) (b o : Nat) (x : R) : Prop where
  w0 : w.cell? ⟨b, o, none⟩ = some (.int .i64 x.w)
  ck : ∀ i, i < 4 → w.cell? ⟨b, o + 1 + i * 3, none⟩ = some (.int .i64 (x.at i).k)
  ci : ∀ i, i < 4 → w.cell? ⟨b, o + 1 + i * 3 + 1, none⟩ = some (.int .i64 (x.at i).i)
  ct : ∀ i, i < 4 → w.cell? ⟨b, o + 1 + i * 3 + 2, none⟩ = some (.string (x.at i).t)

theorem RowAt.kept {w w' : World} {b o : Nat} {x : R} (h : RowAt w b o x) {n : Nat} (hb : ∀ b o, b < n → w'.cell? ⟨b, o, none⟩ = w.cell? ⟨b, o, none⟩) (hlt : b < n) : RowAt w' b o x :=
  ⟨(hb _ _ hlt).trans h.w0, fun i hi => (hb _ _ hlt).trans (h.ck i hi), fun i hi => (hb _ _ hlt).trans (h.ci i hi), fun i hi => (hb _ _ hlt).trans (h.ct i hi)⟩
theorem lt4 {i : Nat} (h : i < 4) : i = 0 ∨ i = 1 ∨ i = 2 ∨ i = 3 := by omega
theorem RowAt.box (w : World) (x : R) (t : Nat) : RowAt (w.alloc (.cells #[.int .i64 x.w, .int .i64 x.a.k, .int .i64 x.a.i, .string x.a.t, .int .i64 x.b.k, .int .i64 x.b.i, .string x.b.t, .int .i64 x.c.k, .int .i64 x.c.i, .string x.c.t, .int .i64 x.d.k, .int .i64 x.d.i, .string x.d.t] t)) w.heap.size 0 x := by
  refine ⟨by simp [go_sem], ?_, ?_, ?_⟩ <;> intro i hi <;> rcases lt4 hi with rfl | rfl | rfl | rfl <;> simp [go_sem, R.at]
theorem RowAt.alloc {w : World} {b o : Nat} {x : R} (h : RowAt w b o x) (ob : Obj) (hlt : b < w.heap.size) : RowAt (w.alloc ob) b o x :=
  h.kept (n := w.heap.size) (fun b o hb => World.cell?_alloc_lt w ob ⟨b, o, none⟩ hb) hlt

theorem compare_any (x y : R) (hx1 : 1 ≤ x.w) (hx4 : x.w ≤ 4) (hy1 : 1 ≤ y.w) (hy4 : y.w ≤ 4) (w : World) :
    Calls Tryd.prog 35 #[x.val, y.val] w fun e w' => e = .returned (.int .i64 (cmpR x y)) ∧ Below w.heap.size w w' := by
  obtain ⟨m, hm⟩ : ∃ m : Nat, (min x.w y.w) = m := ⟨(min x.w y.w).toNat, by omega⟩
  have hr : cmpR x y = cmpFrom x y m 0 := by unfold cmpR; rw [hm]; rfl
  rw [hr]; clear hr
  have HM : Hid (min x.w y.w = m) := hm
  have hm4 : m ≤ 4 := by omega
  clear hm
  by_cases hxy : y.w < x.w
  all_goals
    have hmx : (m : Int) ≤ x.w := by have := HM.out; omega
    have hmy : (m : Int) ≤ y.w := by have := HM.out; omega
    go_enter Tryd.func35, Tryd.ntmps35
    go_wp2
    go_loopw [12] (fun i wr => ∃ k : Nat, k ≤ m ∧ i = .int .i64 k ∧ cmpFrom x y m 0 = cmpFrom x y (m - k) k ∧ RowAt wr w.heap.size 0 x ∧ RowAt wr (w.heap.size + 1) 0 y ∧ Below w.heap.size w wr ∧ w.heap.size + 2 ≤ wr.heap.size) (fun i _ => m - (intOf i).toNat)
    case atStart => exact ⟨0, Nat.zero_le _, rfl, rfl, (RowAt.box w x _).alloc _ (by simp), by simpa using RowAt.box (w.alloc _) y _, by repeat (first | exact Below.refl _ _ | apply Below.drew | (refine Below.alloc ?_ (by simp <;> omega) _)), by simp⟩
    case round =>
      obtain ⟨k, hk, rfl, hkk, hX, hY, hB, hsz⟩ := hrel
      have HK : Hid (cmpFrom x y m 0 = cmpFrom x y (m - k) k) := hkk
      clear hkk
      have hs1 : w.heap.size < wr.heap.size := by omega
      have hs2 : w.heap.size + 1 < wr.heap.size := by omega
      by_cases hlt : k < m
      · have hk4 : k < 4 := by omega
        have hki : (k : Int) < 4 := by omega
        have hk0 : (0 : Int) ≤ k := by omega
        have a0 : wr.cell? ⟨w.heap.size, 1 + k * 3, none⟩ = some (.int .i64 (x.at k).k) := by have := hX.ck k hk4; rwa [Nat.zero_add] at this
        have a1 : wr.cell? ⟨w.heap.size, 1 + k * 3 + 1, none⟩ = some (.int .i64 (x.at k).i) := by have := hX.ci k hk4; rwa [Nat.zero_add] at this
        have a2 : wr.cell? ⟨w.heap.size, 1 + k * 3 + 2, none⟩ = some (.string (x.at k).t) := by have := hX.ct k hk4; rwa [Nat.zero_add] at this
        have b0 : wr.cell? ⟨w.heap.size + 1, 1 + k * 3, none⟩ = some (.int .i64 (y.at k).k) := by have := hY.ck k hk4; rwa [Nat.zero_add] at this
        have b1 : wr.cell? ⟨w.heap.size + 1, 1 + k * 3 + 1, none⟩ = some (.int .i64 (y.at k).i) := by have := hY.ci k hk4; rwa [Nat.zero_add] at this
        have b2 : wr.cell? ⟨w.heap.size + 1, 1 + k * 3 + 2, none⟩ = some (.string (y.at k).t) := by have := hY.ct k hk4; rwa [Nat.zero_add] at this
        by_cases hv : cmpV (x.at k) (y.at k) = 0
        · have hv0 : (cmpV (x.at k) (y.at k) != 0) = false := by simp [hv]
          have HV : Hid (cmpV (x.at k) (y.at k) = 0) := hv
          clear hv
          go_wp2
          go_region_held3 (fun w' => w'.cell? ⟨w.heap.size, 1 + k * 3, none⟩ = some (.int .i64 (x.at k).k) ∧ w'.cell? ⟨w.heap.size, 1 + k * 3 + 1, none⟩ = some (.int .i64 (x.at k).i) ∧ w'.cell? ⟨w.heap.size, 1 + k * 3 + 2, none⟩ = some (.string (x.at k).t) ∧
              w'.cell? ⟨w.heap.size + 1, 1 + k * 3, none⟩ = some (.int .i64 (y.at k).k) ∧ w'.cell? ⟨w.heap.size + 1, 1 + k * 3 + 1, none⟩ = some (.int .i64 (y.at k).i) ∧ w'.cell? ⟨w.heap.size + 1, 1 + k * 3 + 2, none⟩ = some (.string (y.at k).t))
            (simp [*])
            (first
              | (go_at_call 49; refine (compareValues_any (x.at k) (y.at k) _).mono ?_; rintro e w' ⟨rfl, hB'⟩; have hC : ∀ b o, b < wr.heap.size → w'.cell? ⟨b, o, none⟩ = wr.cell? ⟨b, o, none⟩ := fun b o h => (bcell hB').1 b o h))
          go_wp2
          go_roundw
          case rel =>
            exact ⟨k + 1, by omega, by go_num, by rw [HK.out, show m - k = (m - (k + 1)) + 1 from by omega]; exact cmpFrom_miss x y _ k HV.out, hX.kept hC hs1, hY.kept hC hs2, hB.drew.trans (hB'.mono (by show w.heap.size ≤ wr.heap.size; omega)), by have := hB'.size; have h2 : wr.drew.heap.size = wr.heap.size := rfl; omega⟩
          case measure => simp [intOf]; omega
        · have hv0 : (cmpV (x.at k) (y.at k) != 0) = true := by simpa using hv
          have HV : Hid (¬ cmpV (x.at k) (y.at k) = 0) := hv
          clear hv
          go_wp2
          go_region_held3 (fun w' => w'.cell? ⟨w.heap.size, 1 + k * 3, none⟩ = some (.int .i64 (x.at k).k) ∧ w'.cell? ⟨w.heap.size, 1 + k * 3 + 1, none⟩ = some (.int .i64 (x.at k).i) ∧ w'.cell? ⟨w.heap.size, 1 + k * 3 + 2, none⟩ = some (.string (x.at k).t) ∧
              w'.cell? ⟨w.heap.size + 1, 1 + k * 3, none⟩ = some (.int .i64 (y.at k).k) ∧ w'.cell? ⟨w.heap.size + 1, 1 + k * 3 + 1, none⟩ = some (.int .i64 (y.at k).i) ∧ w'.cell? ⟨w.heap.size + 1, 1 + k * 3 + 2, none⟩ = some (.string (y.at k).t))
            (simp [*])
            (first
              | (go_at_call 49; refine (compareValues_any (x.at k) (y.at k) _).mono ?_; rintro e w' ⟨rfl, hB'⟩; have hC : ∀ b o, b < wr.heap.size → w'.cell? ⟨b, o, none⟩ = wr.cell? ⟨b, o, none⟩ := fun b o h => (bcell hB').1 b o h))
          go_wp2
          go_ret
          exact ⟨by rw [HK.out, show m - k = (m - (k + 1)) + 1 from by omega, cmpFrom_hit x y _ k HV.out]; rfl, hB.drew.trans (hB'.mono (by show w.heap.size ≤ wr.heap.size; omega))⟩
      · have hkm : k = m := by omega
        have hle : y.w ≤ k ∨ x.w ≤ k := by have := HM.out; omega
        have hle2 : x.w ≤ y.w → x.w ≤ k := fun h => by have := HM.out; omega
        have hle3 : y.w < x.w → y.w ≤ k := fun h => by have := HM.out; omega
        first
          | replace hle := hle3 hxy
          | replace hle := hle2 hxy
        clear hle2 hle3
        have x0 := hX.w0
        have y0 := hY.w0
        have Hkm : Hid (k = m) := hkm
        clear hkm
        go_wp2_with (go_at_call 50; refine (cmpInt_any _ _ _).mono ?_; rintro e w' ⟨rfl, rfl⟩)
        go_ret
        exact ⟨by rw [HK.out, Hkm.out, Nat.sub_self]; rfl, hB⟩

end Go.Proofs.YtcbjoogkodcgkaaDoor
