/-
  Walks: lists.Check.
-/
import Derived.Test.YtcbjoogkodcgkaaDoorChk
namespace Go.Proofs.YtcbjoogkodcgkaaDoor
open Go.RowKit
set_option maxHeartbeats 1000000
set_option maxRecDepth 100000

/-- A list as a slice: an empty one, or one whose entries lie in memory. -/
def Sl (w : World) (v : Value) (l : List E) : Prop :=
  (∃ a cap, v = .slice a 0 cap ∧ l = []) ∨ (∃ b o cap, v = .slice (some ⟨b, o, none⟩) l.length cap ∧ ListAt w b o l ∧ 0 < l.length)

/-- What Check finds: a number of an error, or 0. -/
def chk (l : List E) : Int := if l.all (fun e => okRow e.r) then (if 128 < l.length then 2 else 0) else 1
/-- An error, or none. -/
def Err (w : World) (n : Int) (e : Ending) : Prop := (n = 0 ∧ e = .returned .nilIface) ∨ (n ≠ 0 ∧ ∃ d v, d ≤ 2 ∧ e = .returned v ∧ ErrNo w d v n)

theorem checkRow_all (r : R) (b o : Nat) (w : World) (h : RowAt w b o r) :
    Calls Tryd.prog 33 #[.pointer (some ⟨b, o, none⟩)] w fun e w' => ((okRow r = true ∧ e = .returned .nilIface) ∨ (okRow r = false ∧ ∃ v', e = .returned v' ∧ ErrNo w' 1 v' 1)) ∧ Below w.heap.size w w' := by
  by_cases hw : 1 ≤ r.w ∧ r.w ≤ 4
  · exact checkRow_any r b o w h hw.1 hw.2
  · refine (checkRow_width r b o w h hw).mono ?_
    rintro e w' ⟨v', rfl, hE, hB⟩
    refine ⟨.inr ⟨?_, v', rfl, hE⟩, hB⟩
    unfold okRow
    by_cases h1 : 1 ≤ r.w
    · simp [h1, show ¬ r.w ≤ 4 from fun h4 => hw ⟨h1, h4⟩]
    · simp [h1]
theorem checkRow_yes (r : R) (b o : Nat) (w : World) (h : RowAt w b o r) (hok : okRow r = true) :
    Calls Tryd.prog 33 #[.pointer (some ⟨b, o, none⟩)] w fun e w' => e = .returned .nilIface ∧ Below w.heap.size w w' :=
  (checkRow_all r b o w h).mono (by rintro e w' ⟨h1 | h1, hB⟩; exact ⟨h1.2, hB⟩; rw [hok] at h1; cases h1.1)
theorem checkRow_no (r : R) (b o : Nat) (w : World) (h : RowAt w b o r) (hok : okRow r = false) :
    Calls Tryd.prog 33 #[.pointer (some ⟨b, o, none⟩)] w fun e w' => ∃ t x, e = .returned (.iface t x) ∧ ErrNo w' 1 (.iface t x) 1 ∧ Below w.heap.size w w' :=
  (checkRow_all r b o w h).mono (by
    rintro e w' ⟨h1 | h1, hB⟩
    · rw [hok] at h1; cases h1.1
    · obtain ⟨_, v', rfl, hE⟩ := h1
      obtain ⟨t, x, rfl⟩ := hE.some
      exact ⟨t, x, rfl, hE, hB⟩)

theorem check_nil (a : Option Addr) (cap : Nat) (w : World) :
    Calls Tryd.prog 21 #[.slice a 0 cap, .int .i64 128] w fun e w' => e = .returned .nilIface ∧ Below w.heap.size w w' := by
  go_enter Tryd.func21, Tryd.ntmps21
  go_wp2
  refine wp_loop_rounds 1 ?_
  rw [rounds_succ]
  go_wp2
  go_ret
  exact ⟨rfl, Below.refl _ _⟩

theorem check_cons (l : List E) (b o cap : Nat) (w : World) (hl : ListAt w b o l) (hn : 0 < l.length) (hn2 : l.length ≤ 1000000000000) :
    Calls Tryd.prog 21 #[.slice (some ⟨b, o, none⟩) l.length cap, .int .i64 128] w fun e w' => Err w' (chk l) e ∧ Below w.heap.size w w' := by
  have hbl : b < w.heap.size := World.block_lt_of_cell? w _ (hl 0 hn).row.w0
  have H1 : Hid (∀ e ∈ l, okRow e.r = false → chk l = 1) := by
    intro e he h
    unfold chk
    rw [if_neg]
    rw [List.all_eq_true]
    intro hall
    rw [hall e he] at h
    cases h
  have H2 : Hid ((∀ e ∈ l, okRow e.r = true) → chk l = if 128 < l.length then 2 else 0) := by
    intro h
    unfold chk
    rw [if_pos (List.all_eq_true.2 h)]
  generalize chk l = C at H1 H2 ⊢
  obtain ⟨n, hN⟩ : ∃ n, l.length = n := ⟨_, rfl⟩
  have HN : Hid (l.length = n) := hN
  rw [hN] at hn2 H2 ⊢
  clear hN
  have hni : (n : Int) ≤ 1000000000000 := by omega
  go_enter Tryd.func21, Tryd.ntmps21
  go_wp2
  go_loopw [9] (fun i wr => ∃ k : Nat, i = .int .i64 k ∧ k ≤ n ∧ (∀ e ∈ l.take k, okRow e.r = true) ∧ Below w.heap.size w wr) (fun i _ => n - (intOf i).toNat)
  case atStart => exact ⟨0, rfl, Nat.zero_le _, by simp, Below.refl _ _⟩
  case round =>
    obtain ⟨k, rfl, hk, hall, hB⟩ := hrel
    have HALL : Hid (∀ e ∈ l.take k, okRow e.r = true) := hall
    clear hall
    have hsz := hB.size
    by_cases hlt : k < n
    · have hlt' : k < l.length := by have := HN.out; omega
      have hki : (k : Int) < n := by omega
      have hE := ((hl k hlt').same (fun j => hB.cell (p := ⟨b, j, none⟩) hbl)).row
      obtain ⟨e, he⟩ : ∃ e, l[k] = e := ⟨_, rfl⟩
      have hmem : e ∈ l := he ▸ List.getElem_mem hlt'
      rw [he] at hE
      have HT : Hid (l.take (k + 1) = l.take k ++ [e]) := take_snoc_of hlt' he
      clear he
      cases hr : okRow e.r
      · have HC : Hid (C = 1) := H1.out e hmem hr
        go_wp2_with fail
        refine (checkRow_no e.r b (o + k * 14) _ hE hr).mono ?_
        rintro ev w1 ⟨t, x, rfl, hE1, hB1⟩
        go_wp2_with fail
        refine (at_err _ _ 1 _ 1 _ hE1).mono ?_
        rintro ev w2 ⟨v', rfl, hE2, hB2⟩
        go_wp2
        go_ret
        exact ⟨.inr ⟨by rw [HC.out]; decide, 2, v', by omega, rfl, by rw [HC.out]; exact hE2⟩, (hB.trans (hB1.mono hsz)).trans (hB2.mono (Nat.le_trans hsz hB1.size))⟩
      · go_wp2_with fail
        refine (checkRow_yes e.r b (o + k * 14) _ hE hr).mono ?_
        rintro ev w1 ⟨rfl, hB1⟩
        go_wp2
        go_roundw
        case rel =>
          refine ⟨k + 1, by go_num, by omega, ?_, hB.trans (hB1.mono hsz)⟩
          intro x hx
          rw [HT.out] at hx
          rcases List.mem_append.1 hx with h | h
          · exact HALL.out x h
          · rw [List.mem_singleton.1 h]; exact hr
        case measure => simp [intOf]; omega
    · have hkn : (n : Int) ≤ k := by omega
      have hT : l.take k = l := List.take_of_length_le (by have := HN.out; omega)
      have HC : Hid (C = if 128 < n then 2 else 0) := H2.out (by have := HALL.out; rwa [hT] at this)
      clear hT
      by_cases h128 : 128 < n
      · have hgt : (128 : Int) < n := by omega
        have HC2 : Hid (C = 2) := by show C = 2; rw [HC.out, if_pos h128]
        go_wp2_with fail
        refine (at_err _ _ 0 _ 2 _ rfl).mono ?_
        rintro ev w2 ⟨v', rfl, hE2, hB2⟩
        go_wp2
        go_ret
        exact ⟨.inr ⟨by rw [HC2.out]; decide, 1, v', by omega, rfl, by rw [HC2.out]; exact hE2⟩, hB.trans (hB2.mono hsz)⟩
      · have hgt : (n : Int) ≤ 128 := by omega
        have HC2 : Hid (C = 0) := by show C = 0; rw [HC.out, if_neg h128]
        go_wp2
        go_ret
        exact ⟨.inl ⟨HC2.out, rfl⟩, hB⟩
end Go.Proofs.YtcbjoogkodcgkaaDoor
