/-
  Walks: tidingsref.value, tidingsref.Row, tidingsref.Wrong.
-/
import Derived.Test.YtcbjoogkodcgkaaDoorChk2
namespace Go.Proofs.YtcbjoogkodcgkaaDoor
open Go.RowKit
set_option maxHeartbeats 1000000
set_option maxRecDepth 100000

theorem refValue_any (v : V) (w : World) :
    Calls Tryd.prog 40 #[v.val] w fun e w' => e = .returned (.bool (okV v)) ∧ Below w.heap.size w w' := by
  obtain ⟨k, i, t⟩ := v
  by_cases hr : k < 0 ∨ 3 < k ∨ 16 < t.size
  · have ho : okV ⟨k, i, t⟩ = false := by
      cases h : okV ⟨k, i, t⟩
      · rfl
      · rcases okV_cases h with h | h | h | h <;> simp only at h <;> omega
    rw [ho]
    rcases hr with h | h | h
    · go_enter Tryd.func40, Tryd.ntmps40
      go_wp2
      go_ret
      exact ⟨rfl, below_box _ _⟩
    · have h0 : ¬ k < 0 := by omega
      go_enter Tryd.func40, Tryd.ntmps40
      go_wp2
      go_ret
      exact ⟨rfl, below_box _ _⟩
    · have h' : (16 : Int) < t.size := by omega
      go_enter Tryd.func40, Tryd.ntmps40
      go_wp2
      all_goals
        go_ret
        exact ⟨rfl, below_box _ _⟩
  · have ht : (t.size : Int) ≤ 16 := by omega
    have ht2 : t.size ≤ 16 := by omega
    have : k = 0 ∨ k = 1 ∨ k = 2 ∨ k = 3 := by omega
    clear hr
    rcases this with rfl | rfl | rfl | rfl
    all_goals
      go_enter Tryd.func40, Tryd.ntmps40
      go_wp2
      all_goals
        go_ret
        refine ⟨?_, below_box _ _⟩
        first
          | (simp [okV, *, empty_text]; done)
          | (simp_all [okV, empty_text]; done)
          | trace_state
theorem refValue_is (v : V) (b : Bool) (h : okV v = b) (w : World) :
    Calls Tryd.prog 40 #[v.val] w fun e w' => e = .returned (.bool b) ∧ Below w.heap.size w w' := h ▸ refValue_any v w
theorem eqV_zero (v : V) : eqV v zeroV = (okV v && v.k == 0) := by
  obtain ⟨k, i, t⟩ := v
  have he : (t.toList == zeroV.t.toList) = (t.size == 0) := by
    rw [ByteArray.toList_eq, ByteArray.toList_eq]
    obtain ⟨⟨l⟩⟩ := t
    cases l <;> rfl
  by_cases h0 : k = 0
  · subst h0
    simp only [eqV, he]
    simp [okV, zeroV]
  · have : (k == 0) = false := by simpa using h0
    simp [eqV, zeroV, this]

theorem refRow_width (r : R) (hw : ¬ (1 ≤ r.w ∧ r.w ≤ 4)) (w : World) :
    Calls Tryd.prog 24 #[r.val] w fun e w' => e = .returned (.bool false) ∧ Below w.heap.size w w' := by
  by_cases h1 : r.w < 1
  all_goals
    go_enter Tryd.func24, Tryd.ntmps24
    go_wp2
    go_ret
    exact ⟨rfl, below_box _ _⟩

theorem refRow_in (r : R) (hw1 : 1 ≤ r.w) (hw4 : r.w ≤ 4) (w : World) :
    Calls Tryd.prog 24 #[r.val] w fun e w' => e = .returned (.bool (okRow r)) ∧ Below w.heap.size w w' := by
  have HB : Hid (∀ k, k < 4 → okCell r k = false → okRow r = false) := fun k hk h => okRow_bad hk h
  have HG : Hid ((∀ k, k < 4 → okCell r k = true) → okRow r = true) := by
    intro h
    simp [okRow, hw1, hw4, h 0 (by decide), h 1 (by decide), h 2 (by decide), h 3 (by decide)]
  generalize okRow r = G at HB HG ⊢
  go_enter Tryd.func24, Tryd.ntmps24
  go_wp2
  go_loopw [3] (fun i wr => ∃ k : Nat, i = .int .i64 k ∧ k ≤ 4 ∧ (∀ j, j < k → okCell r j = true) ∧ RowAt wr w.heap.size 0 r ∧ Below w.heap.size w wr ∧ w.heap.size < wr.heap.size) (fun i _ => 4 - (intOf i).toNat)
  case atStart => exact ⟨0, rfl, by omega, by omega, RowAt.box w r _, below_box _ _, by simp⟩
  case round =>
    obtain ⟨k, rfl, hk, hall, hX, hB, hsz⟩ := hrel
    have HALL : Hid (∀ j, j < k → okCell r j = true) := hall
    clear hall
    have d0 := hX.w0
    by_cases hlt : k < 4
    · have hki : (k : Int) < 4 := by omega
      have hk0 : (0 : Int) ≤ k := by omega
      have a0 : wr.cell? ⟨w.heap.size, 1 + k * 3, none⟩ = some (.int .i64 (r.at k).k) := by have := hX.ck k hlt; rwa [Nat.zero_add] at this
      have a1 : wr.cell? ⟨w.heap.size, 1 + k * 3 + 1, none⟩ = some (.int .i64 (r.at k).i) := by have := hX.ci k hlt; rwa [Nat.zero_add] at this
      have a2 : wr.cell? ⟨w.heap.size, 1 + k * 3 + 2, none⟩ = some (.string (r.at k).t) := by have := hX.ct k hlt; rwa [Nat.zero_add] at this
      cases hv : okV (r.at k)
      · have HV : Hid (okCell r k = false) := by
          show okCell r k = false
          unfold okCell
          split
          · exact hv
          · rw [eqV_zero, hv]; rfl
        go_wp2_with fail
        refine (refValue_is (r.at k) _ hv _).mono ?_
        rintro e w1 ⟨rfl, hB1⟩
        go_wp2
        go_ret
        exact ⟨by rw [HB.out k hlt HV.out]; rfl, (hB.alloc (by omega) _).trans (hB1.mono (by simp; omega))⟩
      · go_wp2_with fail
        refine (refValue_is (r.at k) _ hv _).mono ?_
        rintro e w1 ⟨rfl, hB1⟩
        have hC1 := fun c j (h : c < wr.heap.size + 1) => (bcell hB1).1 c j (by simpa using h)
        have e0 : w1.cell? ⟨w.heap.size, 0, none⟩ = some (.int .i64 r.w) := (hC1 _ _ (by omega)).trans ((World.cell?_alloc_lt _ _ ⟨w.heap.size, 0, none⟩ hsz).trans d0)
        have e1 : w1.cell? ⟨wr.heap.size, 0, none⟩ = some (.int .i64 (r.at k).k) := (hC1 _ _ (by omega)).trans (by simp [go_sem])
        have hX1 : RowAt w1 w.heap.size 0 r := (hX.alloc _ hsz).same (fun j => hC1 _ j (by omega))
        have hBa := (hB.alloc (by omega) _).trans (hB1.mono (by simp; omega))
        have hsz1 : w.heap.size < w1.heap.size := by have := hB1.size; simp at this; omega
        clear hC1 a0 a1 a2
        by_cases hge : r.w ≤ (k : Int)
        · by_cases hk0 : (r.at k).k = 0
          · have hq : ((r.at k).k != 0) = false := by simpa using hk0
            have HV : Hid (okCell r k = true) := by
              show okCell r k = true
              unfold okCell
              rw [if_neg (by omega), eqV_zero, hv]
              simpa using hk0
            clear hk0
            go_wp2
            go_roundw
            case rel =>
              refine ⟨k + 1, by go_num, by omega, ?_, hX1, hBa, hsz1⟩
              intro j hj
              by_cases hjk : j = k
              · subst hjk; exact HV.out
              · exact HALL.out j (by omega)
            case measure => simp [intOf]; omega
          · have hq : ((r.at k).k != 0) = true := by simpa using hk0
            have HV : Hid (okCell r k = false) := by
              show okCell r k = false
              unfold okCell
              rw [if_neg (by omega), eqV_zero, hv]
              simpa using hk0
            clear hk0
            go_wp2
            go_ret
            exact ⟨by rw [HB.out k hlt HV.out]; rfl, hBa⟩
        · have hlt2 : (k : Int) < r.w := by omega
          have HV : Hid (okCell r k = true) := by
            show okCell r k = true
            unfold okCell
            rw [if_pos hlt2]; exact hv
          go_wp2
          go_roundw
          case rel =>
            refine ⟨k + 1, by go_num, by omega, ?_, hX1, hBa, hsz1⟩
            intro j hj
            by_cases hjk : j = k
            · subst hjk; exact HV.out
            · exact HALL.out j (by omega)
          case measure => simp [intOf]; omega
    · have hk4 : (4 : Int) ≤ k := by omega
      have H4 : Hid (G = true) := HG.out (fun j hj => HALL.out j (by omega))
      go_wp2
      go_ret
      exact ⟨by rw [H4.out]; rfl, hB⟩

theorem refRow_any (r : R) (w : World) :
    Calls Tryd.prog 24 #[r.val] w fun e w' => e = .returned (.bool (okRow r)) ∧ Below w.heap.size w w' := by
  by_cases hw : 1 ≤ r.w ∧ r.w ≤ 4
  · exact refRow_in r hw.1 hw.2 w
  · have : okRow r = false := by
      unfold okRow
      by_cases h1 : 1 ≤ r.w
      · simp [h1, show ¬ r.w ≤ 4 from fun h4 => hw ⟨h1, h4⟩]
      · simp [h1]
    rw [this]
    exact refRow_width r hw w
theorem refRow_is (r : R) (b : Bool) (h : okRow r = b) (w : World) :
    Calls Tryd.prog 24 #[r.val] w fun e w' => e = .returned (.bool b) ∧ Below w.heap.size w w' := h ▸ refRow_any r w

theorem wrong_nil (a : Option Addr) (cap : Nat) (w : World) :
    Calls Tryd.prog 15 #[.slice a 0 cap, .int .i64 128] w fun e w' => e = .returned (.int .i64 0) ∧ Below w.heap.size w w' := by
  go_enter Tryd.func15, Tryd.ntmps15
  go_wp2
  refine wp_loop_rounds 1 ?_
  rw [rounds_succ]
  go_wp2
  go_ret
  exact ⟨rfl, Below.refl _ _⟩

theorem wrong_cons (l : List E) (b o cap : Nat) (w : World) (hl : ListAt w b o l) (hn : 0 < l.length) (hn2 : l.length ≤ 1000000000000) :
    Calls Tryd.prog 15 #[.slice (some ⟨b, o, none⟩) l.length cap, .int .i64 128] w fun e w' => e = .returned (.int .i64 (chk l)) ∧ Below w.heap.size w w' := by
  have hbl : b < w.heap.size := World.block_lt_of_cell? w _ (hl 0 hn).row.w0
  have H1 : Hid (∀ e ∈ l, okRow e.r = false → chk l = 1) := by
    intro e he h
    unfold chk
    rw [if_neg]
    rw [List.all_eq_true]
    intro hall
    rw [hall e he] at h
    cases h
  have H2 : Hid ((∀ e ∈ l, okRow e.r = true) → chk l = if 128 < l.length then 2 else 0) := by
    intro h
    unfold chk
    rw [if_pos (List.all_eq_true.2 h)]
  generalize chk l = C at H1 H2 ⊢
  obtain ⟨n, hN⟩ : ∃ n, l.length = n := ⟨_, rfl⟩
  have HN : Hid (l.length = n) := hN
  rw [hN] at hn2 H2 ⊢
  clear hN
  have hni : (n : Int) ≤ 1000000000000 := by omega
  go_enter Tryd.func15, Tryd.ntmps15
  go_wp2
  go_loopw [5] (fun i wr => ∃ k : Nat, i = .int .i64 k ∧ k ≤ n ∧ (∀ e ∈ l.take k, okRow e.r = true) ∧ Below w.heap.size w wr) (fun i _ => n - (intOf i).toNat)
  case atStart => exact ⟨0, rfl, Nat.zero_le _, by simp, Below.refl _ _⟩
  case round =>
    obtain ⟨k, rfl, hk, hall, hB⟩ := hrel
    have HALL : Hid (∀ e ∈ l.take k, okRow e.r = true) := hall
    clear hall
    have hsz := hB.size
    by_cases hlt : k < n
    · have hlt' : k < l.length := by have := HN.out; omega
      have hki : (k : Int) < n := by omega
      have hE := ((hl k hlt').same (fun j => hB.cell (p := ⟨b, j, none⟩) hbl)).row
      obtain ⟨e, he⟩ : ∃ e, l[k] = e := ⟨_, rfl⟩
      have hmem : e ∈ l := he ▸ List.getElem_mem hlt'
      rw [he] at hE
      have HT : Hid (l.take (k + 1) = l.take k ++ [e]) := take_snoc_of hlt' he
      clear he
      obtain ⟨c0, c1, c2, c3, c4, c5, c6, c7, c8, c9, c10, c11, c12⟩ := hE.flat
      cases hr : okRow e.r
      · have HC : Hid (C = 1) := H1.out e hmem hr
        go_wp2_with fail
        refine (refRow_is e.r _ hr _).mono ?_
        rintro ev w1 ⟨rfl, hB1⟩
        go_wp2
        go_ret
        exact ⟨by rw [HC.out]; rfl, hB.trans (hB1.mono hsz)⟩
      · go_wp2_with fail
        refine (refRow_is e.r _ hr _).mono ?_
        rintro ev w1 ⟨rfl, hB1⟩
        go_wp2
        go_roundw
        case rel =>
          refine ⟨k + 1, by go_num, by omega, ?_, hB.trans (hB1.mono hsz)⟩
          intro x hx
          rw [HT.out] at hx
          rcases List.mem_append.1 hx with h | h
          · exact HALL.out x h
          · rw [List.mem_singleton.1 h]; exact hr
        case measure => simp [intOf]; omega
    · have hkn : (n : Int) ≤ k := by omega
      have hT : l.take k = l := List.take_of_length_le (by have := HN.out; omega)
      have HC : Hid (C = if 128 < n then 2 else 0) := H2.out (by have := HALL.out; rwa [hT] at this)
      clear hT
      by_cases h128 : 128 < n
      · have hgt : (128 : Int) < n := by omega
        go_wp2
        go_ret
        exact ⟨by rw [HC.out, if_pos h128]; rfl, hB⟩
      · have hgt : (n : Int) ≤ 128 := by omega
        go_wp2
        go_ret
        exact ⟨by rw [HC.out, if_neg h128]; rfl, hB⟩

end Go.Proofs.YtcbjoogkodcgkaaDoor
