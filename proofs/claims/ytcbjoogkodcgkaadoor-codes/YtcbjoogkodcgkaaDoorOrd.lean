/-
  Walks: tidingsref.lessText, lessValue, LessRow.
-/
import Derived.Test.YtcbjoogkodcgkaaDoorWr
namespace Go.Proofs.YtcbjoogkodcgkaaDoor
open Go.RowKit
set_option maxHeartbeats 1000000
set_option maxRecDepth 100000

/-- Byte by byte. -/
def lessB : List UInt8 → List UInt8 → Bool
  | [], [] => false
  | [], _ :: _ => true
  | _ :: _, [] => false
  | a :: l, b :: m => if a = b then lessB l m else decide (a < b)

theorem lessText_any (a b : List UInt8) (w : World) (_ha : a.length ≤ 16) (_hb : b.length ≤ 16) :
    Calls Tryd.prog 53 #[.string (mk a), .string (mk b)] w fun e w' => e = .returned (.bool (lessB a b)) ∧ Below w.heap.size w w' := by
  have hsa := mk_size a
  have hsb := mk_size b
  go_enter Tryd.func53, Tryd.ntmps53
  go_wp2
  go_loopw [5] (fun i wr => ∃ k : Nat, i = .int .i64 k ∧ k ≤ a.length ∧ k ≤ b.length ∧ lessB a b = lessB (a.drop k) (b.drop k) ∧ Below w.heap.size w wr) (fun i _ => a.length - (intOf i).toNat)
  case atStart => exact ⟨0, rfl, Nat.zero_le _, Nat.zero_le _, by simp, Below.refl _ _⟩
  case round =>
    obtain ⟨k, rfl, hka, hkb, hq, hB⟩ := hrel
    have HQ : Hid (lessB a b = lessB (a.drop k) (b.drop k)) := hq
    clear hq
    by_cases h1 : k < a.length
    · by_cases h2 : k < b.length
      · have e1 : (k : Int) < (mk a).size := by rw [mk_size]; omega
        have e2 : (k : Int) < (mk b).size := by rw [mk_size]; omega
        have e3 : k < (mk a).size := by rw [mk_size]; omega
        have e4 : k < (mk b).size := by rw [mk_size]; omega
        clear hsa hsb
        obtain ⟨x, hx⟩ : ∃ x, (mk a)[k].toNat = x := ⟨_, rfl⟩
        obtain ⟨y, hy⟩ : ∃ y, (mk b)[k].toNat = y := ⟨_, rfl⟩
        have hx' : a[k].toNat = x := by rw [← hx]; rfl
        have hy' : b[k].toNat = y := by rw [← hy]; rfl
        have hda : a.drop k = a[k] :: a.drop (k + 1) := List.drop_eq_getElem_cons h1
        have hdb : b.drop k = b[k] :: b.drop (k + 1) := List.drop_eq_getElem_cons h2
        by_cases hc : x = y
        · have HC : Hid (lessB a b = lessB (a.drop (k + 1)) (b.drop (k + 1))) := by
            show _ = _
            rw [HQ.out, hda, hdb]
            simp only [lessB]
            rw [if_pos (UInt8.toNat_inj.1 (by omega))]
          have hcq : ((x : Int) != (y : Int)) = false := by simp; omega
          clear hda hdb hx' hy' hc
          go_wp2
          go_quiet (fail)
          go_wp2
          go_roundw
          case rel => exact ⟨k + 1, by go_num, by omega, by omega, HC.out, below_drewN hB _⟩
          case measure => simp [intOf]; omega
        · have HC : Hid (lessB a b = decide (x < y)) := by
            show _ = _
            rw [HQ.out, hda, hdb]
            simp only [lessB]
            rw [if_neg (fun h => hc (by rw [← hx', ← hy', h]))]
            rw [Bool.eq_iff_iff, decide_eq_true_eq, decide_eq_true_eq, UInt8.lt_iff_toNat_lt]
            omega
          have hcq : ((x : Int) != (y : Int)) = true := by simp; omega
          clear hda hdb hx' hy' hc
          go_wp2
          go_quiet (fail)
          go_wp2
          go_quiet (fail)
          go_wp2
          go_ret
          exact ⟨by rw [HC.out]; rfl, below_drewN (below_drewN hB _) _⟩
      · have HC : Hid (lessB a b = decide ((a.length : Int) < b.length)) := by
          show _ = _
          rw [HQ.out, List.drop_of_length_le (l := b) (by omega), List.drop_eq_getElem_cons h1]
          simp only [lessB]
          simp; omega
        have e1 : (k : Int) < (mk a).size := by rw [mk_size]; omega
        have e2 : ((mk b).size : Int) ≤ k := by rw [mk_size]; omega
        go_wp2
        go_ret
        exact ⟨by rw [HC.out]; simp, hB⟩
    · have HC : Hid (lessB a b = decide ((a.length : Int) < b.length)) := by
        show _ = _
        rw [HQ.out, List.drop_of_length_le (l := a) (by omega)]
        by_cases h2 : k < b.length
        · rw [List.drop_eq_getElem_cons h2]; simp only [lessB]; simp; omega
        · rw [List.drop_of_length_le (by omega)]; simp only [lessB]; simp; omega
      have e1 : ((mk a).size : Int) ≤ k := by rw [mk_size]; omega
      go_wp2
      go_ret
      exact ⟨by rw [HC.out]; simp, hB⟩
def lessV (x y : V) : Bool := if x.k = y.k then (if x.k = 3 then lessB x.t.data.toList y.t.data.toList else decide (x.i < y.i)) else decide (x.k < y.k)

theorem mk_data (t : ByteArray) : mk t.data.toList = t := by
  obtain ⟨⟨l⟩⟩ := t
  rfl

theorem lessValue_any (x y : V) (w : World) (hx : x.t.size ≤ 16) (hy : y.t.size ≤ 16) :
    Calls Tryd.prog 41 #[x.val, y.val] w fun e w' => e = .returned (.bool (lessV x y)) ∧ Below w.heap.size w w' := by
  obtain ⟨xk, xi, xt⟩ := x
  obtain ⟨yk, yi, yt⟩ := y
  simp only at hx hy
  by_cases hk : xk = yk
  · subst hk
    by_cases h3 : xk = 3
    · subst h3
      have HL : Hid (∀ w, Calls Tryd.prog 53 #[.string xt, .string yt] w fun e w' => e = .returned (.bool (lessB xt.data.toList yt.data.toList)) ∧ Below w.heap.size w w') := by
        intro w
        have := lessText_any xt.data.toList yt.data.toList w (by simpa using hx) (by simpa using hy)
        rwa [mk_data, mk_data] at this
      go_enter Tryd.func41, Tryd.ntmps41
      go_wp2_with fail
      refine (HL.out _).mono ?_
      rintro e w1 ⟨rfl, hB⟩
      go_wp2
      go_ret
      exact ⟨by simp [lessV], ((below_box w _).alloc (by simp) _).trans (hB.mono (by simp; omega))⟩
    · have q3 : (xk == 3) = false := by simpa using h3
      go_enter Tryd.func41, Tryd.ntmps41
      go_wp2
      go_ret
      exact ⟨by simp [lessV, h3], (below_box w _).alloc (by simp) _⟩
  · have qk : (xk != yk) = true := by simpa using hk
    go_enter Tryd.func41, Tryd.ntmps41
    go_wp2
    go_ret
    exact ⟨by simp [lessV, hk], (below_box w _).alloc (by simp) _⟩

/-- tidingsref.LessRow from the i-th value on, n values. -/
def lessFrom (x y : R) : Nat → Nat → Bool
  | 0, _ => decide (x.w < y.w)
  | n + 1, i => if eqV (x.at i) (y.at i) then lessFrom x y n (i + 1) else lessV (x.at i) (y.at i)
def lessR (x y : R) : Bool := lessFrom x y (min x.w y.w).toNat 0

theorem lessRow_any (x y : R) (hx1 : 1 ≤ x.w) (hx4 : x.w ≤ 4) (hy1 : 1 ≤ y.w) (hy4 : y.w ≤ 4) (hxt : ∀ i, i < 4 → (x.at i).t.size ≤ 16) (hyt : ∀ i, i < 4 → (y.at i).t.size ≤ 16) (w : World) :
    Calls Tryd.prog 25 #[x.val, y.val] w fun e w' => e = .returned (.bool (lessR x y)) ∧ Below w.heap.size w w' := by
  obtain ⟨m, hm⟩ : ∃ m : Nat, (min x.w y.w) = m := ⟨(min x.w y.w).toNat, by omega⟩
  have hr : lessR x y = lessFrom x y m 0 := by unfold lessR; rw [hm]; rfl
  rw [hr]; clear hr
  have HM : Hid (min x.w y.w = m) := hm
  have hm4 : m ≤ 4 := by omega
  clear hm
  have hmx : (m : Int) ≤ x.w := by have := HM.out; omega
  have hmy : (m : Int) ≤ y.w := by have := HM.out; omega
  go_enter Tryd.func25, Tryd.ntmps25
  go_wp2
  go_loopw [5] (fun i wr => ∃ k : Nat, k ≤ m ∧ i = .int .i64 k ∧ lessFrom x y m 0 = lessFrom x y (m - k) k ∧ RowAt wr w.heap.size 0 x ∧ RowAt wr (w.heap.size + 1) 0 y ∧ Below w.heap.size w wr ∧ w.heap.size + 2 ≤ wr.heap.size) (fun i _ => m - (intOf i).toNat)
  case atStart => exact ⟨0, Nat.zero_le _, rfl, rfl, (RowAt.box w x _).alloc _ (by simp), by simpa using RowAt.box (w.alloc _) y _, (below_box w _).alloc (by simp) _, by simp⟩
  case round =>
    obtain ⟨k, hk, rfl, hkk, hX, hY, hB, hsz⟩ := hrel
    have HK : Hid (lessFrom x y m 0 = lessFrom x y (m - k) k) := hkk
    clear hkk
    have hs1 : w.heap.size < wr.heap.size := by omega
    have hs2 : w.heap.size + 1 < wr.heap.size := by omega
    have x0 := hX.w0
    have y0 := hY.w0
    by_cases hlt : k < m
    · have hk4 : k < 4 := by omega
      have hki : (k : Int) < 4 := by omega
      have hk0 : (0 : Int) ≤ k := by omega
      have hkx : (k : Int) < x.w := by omega
      have hky : (k : Int) < y.w := by omega
      have a0 : wr.cell? ⟨w.heap.size, 1 + k * 3, none⟩ = some (.int .i64 (x.at k).k) := by have := hX.ck k hk4; rwa [Nat.zero_add] at this
      have a1 : wr.cell? ⟨w.heap.size, 1 + k * 3 + 1, none⟩ = some (.int .i64 (x.at k).i) := by have := hX.ci k hk4; rwa [Nat.zero_add] at this
      have a2 : wr.cell? ⟨w.heap.size, 1 + k * 3 + 2, none⟩ = some (.string (x.at k).t) := by have := hX.ct k hk4; rwa [Nat.zero_add] at this
      have b0 : wr.cell? ⟨w.heap.size + 1, 1 + k * 3, none⟩ = some (.int .i64 (y.at k).k) := by have := hY.ck k hk4; rwa [Nat.zero_add] at this
      have b1 : wr.cell? ⟨w.heap.size + 1, 1 + k * 3 + 1, none⟩ = some (.int .i64 (y.at k).i) := by have := hY.ci k hk4; rwa [Nat.zero_add] at this
      have b2 : wr.cell? ⟨w.heap.size + 1, 1 + k * 3 + 2, none⟩ = some (.string (y.at k).t) := by have := hY.ct k hk4; rwa [Nat.zero_add] at this
      have hnv := fun w' => neVal (x.at k) (y.at k) w'
      cases hq : eqV (x.at k) (y.at k)
      · have HC : Hid (lessFrom x y m 0 = lessV (x.at k) (y.at k)) := by
          show _ = _
          rw [HK.out, show m - k = (m - (k + 1)) + 1 from by omega]
          simp [lessFrom, hq]
        rw [hq] at hnv
        clear hq
        go_wp2_with fail
        go_region_held3 (fun w' => w'.cell? ⟨w.heap.size, 1 + k * 3, none⟩ = some (.int .i64 (x.at k).k) ∧ w'.cell? ⟨w.heap.size, 1 + k * 3 + 1, none⟩ = some (.int .i64 (x.at k).i) ∧ w'.cell? ⟨w.heap.size, 1 + k * 3 + 2, none⟩ = some (.string (x.at k).t) ∧
            w'.cell? ⟨w.heap.size + 1, 1 + k * 3, none⟩ = some (.int .i64 (y.at k).k) ∧ w'.cell? ⟨w.heap.size + 1, 1 + k * 3 + 1, none⟩ = some (.int .i64 (y.at k).i) ∧ w'.cell? ⟨w.heap.size + 1, 1 + k * 3 + 2, none⟩ = some (.string (y.at k).t))
          (simp [*]) (fail)
        go_wp2
        go_region_held3 (fun w' => w'.cell? ⟨w.heap.size, 1 + k * 3, none⟩ = some (.int .i64 (x.at k).k) ∧ w'.cell? ⟨w.heap.size, 1 + k * 3 + 1, none⟩ = some (.int .i64 (x.at k).i) ∧ w'.cell? ⟨w.heap.size, 1 + k * 3 + 2, none⟩ = some (.string (x.at k).t) ∧
            w'.cell? ⟨w.heap.size + 1, 1 + k * 3, none⟩ = some (.int .i64 (y.at k).k) ∧ w'.cell? ⟨w.heap.size + 1, 1 + k * 3 + 1, none⟩ = some (.int .i64 (y.at k).i) ∧ w'.cell? ⟨w.heap.size + 1, 1 + k * 3 + 2, none⟩ = some (.string (y.at k).t))
          (simp [*])
          (first
            | (go_at_call 41; refine (lessValue_any (x.at k) (y.at k) _ (hxt k hk4) (hyt k hk4)).mono ?_; rintro e w' ⟨rfl, hB'⟩; have hC : ∀ b o, b < wr.heap.size → w'.cell? ⟨b, o, none⟩ = wr.cell? ⟨b, o, none⟩ := fun b o h => (bcell hB').1 b o h))
        go_wp2
        go_ret
        exact ⟨by rw [HC.out]; rfl, hB.drew.drew.trans (hB'.mono (by show w.heap.size ≤ wr.heap.size; omega))⟩
      · have HC : Hid (lessFrom x y m 0 = lessFrom x y (m - (k + 1)) (k + 1)) := by
          show _ = _
          rw [HK.out, show m - k = (m - (k + 1)) + 1 from by omega]
          simp [lessFrom, hq]
        rw [hq] at hnv
        clear hq
        go_wp2_with fail
        go_region_held3 (fun w' => w'.cell? ⟨w.heap.size, 1 + k * 3, none⟩ = some (.int .i64 (x.at k).k) ∧ w'.cell? ⟨w.heap.size, 1 + k * 3 + 1, none⟩ = some (.int .i64 (x.at k).i) ∧ w'.cell? ⟨w.heap.size, 1 + k * 3 + 2, none⟩ = some (.string (x.at k).t) ∧
            w'.cell? ⟨w.heap.size + 1, 1 + k * 3, none⟩ = some (.int .i64 (y.at k).k) ∧ w'.cell? ⟨w.heap.size + 1, 1 + k * 3 + 1, none⟩ = some (.int .i64 (y.at k).i) ∧ w'.cell? ⟨w.heap.size + 1, 1 + k * 3 + 2, none⟩ = some (.string (y.at k).t))
          (simp [*]) (fail)
        go_wp2
        go_roundw
        case rel => exact ⟨k + 1, by omega, by go_num, HC.out, hX.drew, hY.drew, hB.drew, hsz⟩
        case measure => simp [intOf]; omega
    · have Hkm : Hid (k = m) := by show k = m; omega
      have HC : Hid (lessFrom x y m 0 = decide (x.w < y.w)) := by show _ = _; rw [HK.out, Hkm.out, Nat.sub_self]; rfl
      by_cases hkx : (k : Int) < x.w
      · have hky : y.w ≤ (k : Int) := by have := HM.out; have := Hkm.out; omega
        go_wp2
        go_ret
        exact ⟨by rw [HC.out]; rfl, hB⟩
      · go_wp2
        go_ret
        exact ⟨by rw [HC.out]; rfl, hB⟩
end Go.Proofs.YtcbjoogkodcgkaaDoor
