/-
  Walks: tidings.Encode whole; the law's Code, num.
-/
import Derived.Test.YtcbjoogkodcgkaaDoorDoor
import Derived.Test.YtcbjoogkodcgkaaDoorOrd2
import Derived.Test.YtcbjoogkodcgkaaDoorOpn
namespace Go.Proofs.YtcbjoogkodcgkaaDoor
open Go.RowKit Go.Extern.Stop Go.Stop Go.Extern
set_option maxHeartbeats 4000000
set_option maxRecDepth 100000

/-- What Encode answers, in all. -/
def EncD (l : List E) (s : Value) (n : Int) : Prop :=
  (chk l = 0 ∧ InOrd l ∧ n = 0 ∧ s = .string (mk (enc l))) ∨ (chk l ≠ 0 ∧ n = chk l ∧ s = .string ⟨#[]⟩) ∨ (chk l = 0 ∧ ¬ InOrd l ∧ n = 4 ∧ s = .string ⟨#[]⟩)
theorem encode_any (v : Value) (l : List E) (w : World) (h : Sl w v l) (hn : l.length ≤ 1000000000000) (hr : ∀ e ∈ l, Rng e) (a : Addr)
    (hg : w.cell? ⟨0, 0, none⟩ = some (tgt a)) (hq : w.cell? ⟨3, 0, none⟩ = some (rty 41)) :
    Calls Tryd.prog 6 #[v] w fun e w' => ∃ s n, e = .returned (.tuple #[s, .int .i64 n]) ∧ EncD l s n ∧ Below w.heap.size w w' := by
  refine Encode_of _ w (fun s x w' => ((chk l = 0 ∧ InOrd l ∧ s = .string (mk (enc l)) ∧ x = .nilIface) ∨ (chk l ≠ 0 ∧ s = .string ⟨#[]⟩ ∧ ∃ d, d ≤ 2 ∧ ErrNo w' d x (chk l)) ∨
      (chk l = 0 ∧ ¬ InOrd l ∧ s = .string ⟨#[]⟩ ∧ ∃ d, d ≤ 2 ∧ ErrNo w' d x 4)) ∧ Below w.heap.size w w')
    (fun s n w' => EncD l s n ∧ Below w.heap.size w w') ?_ ?_
  · refine (write_any v l w h hn hr).mono ?_
    rintro e w1 ⟨⟨hc, hO, rfl⟩ | ⟨hc, d, x, hd, rfl, hE⟩ | ⟨hc, hO, d, x, hd, rfl, hE⟩, hB⟩
    · exact ⟨_, _, rfl, .inl ⟨hc, hO, rfl, rfl⟩, hB⟩
    · exact ⟨_, _, rfl, .inr (.inl ⟨hc, rfl, d, hd, hE⟩), hB⟩
    · exact ⟨_, _, rfl, .inr (.inr ⟨hc, hO, rfl, d, hd, hE⟩), hB⟩
  · rintro s x w1 ⟨h, hB⟩
    have hg1 : w1.cell? ⟨0, 0, none⟩ = some (tgt a) := (hB.cell (World.block_lt_of_cell? w _ hg)).trans hg
    have hq1 : w1.cell? ⟨3, 0, none⟩ = some (rty 41) := (hB.cell (World.block_lt_of_cell? w _ hq)).trans hq
    rcases h with ⟨hc, hO, rfl, rfl⟩ | ⟨hc, rfl, d, hd, hE⟩ | ⟨hc, hO, rfl, d, hd, hE⟩
    · refine (errno_nil a w1 hg1).mono ?_
      rintro e w2 ⟨rfl, rfl⟩
      exact ⟨0, rfl, .inl ⟨hc, hO, rfl, rfl⟩, hB.alloc hB.size _⟩
    · refine (errno_no d hd x a _ w1 hg1 hq1 hE (chk_ne6 l)).mono ?_
      rintro e w2 ⟨rfl, hB2⟩
      exact ⟨_, rfl, .inr (.inl ⟨hc, rfl, rfl⟩), hB.trans (hB2.mono hB.size)⟩
    · refine (errno_no d hd x a _ w1 hg1 hq1 hE (by decide)).mono ?_
      rintro e w2 ⟨rfl, hB2⟩
      exact ⟨_, rfl, .inr (.inr ⟨hc, hO, rfl, rfl⟩), hB.trans (hB2.mono hB.size)⟩

/-- What the law's Code answers. -/
def CodeIs (l : List E) (f : Int) : Prop := (chk l = 0 ∧ InOrd l ∧ f = 0) ∨ (chk l ≠ 0 ∧ f = chk l) ∨ (chk l = 0 ∧ ¬ InOrd l ∧ f = 4)
theorem wrong_all (v : Value) (l : List E) (w : World) (h : Sl w v l) (hn : l.length ≤ 1000000000000) :
    Calls Tryd.prog 15 #[v, .int .i64 128] w fun e w' => e = .returned (.int .i64 (chk l)) ∧ Below w.heap.size w w' := by
  rcases h with ⟨a, cap, rfl, rfl⟩ | ⟨b, o, cap, rfl, hl, h0⟩
  · exact wrong_nil a cap w
  · exact wrong_cons l b o cap w hl h0 hn
theorem order_all (v : Value) (l : List E) (w : World) (h : Sl w v l) (hc : chk l = 0) :
    Calls Tryd.prog 16 #[v] w fun e w' => ((InOrd l ∧ e = .returned (.bool true)) ∨ (¬ InOrd l ∧ e = .returned (.bool false))) ∧ Below w.heap.size w w' := by
  rcases h with ⟨a, cap, rfl, rfl⟩ | ⟨b, o, cap, rfl, hl, h0⟩
  · refine (order_nil a cap w).mono ?_
    rintro e w' ⟨rfl, hB⟩
    exact ⟨.inl ⟨InOrd_nil, rfl⟩, hB⟩
  · exact order_cons l b o cap w hl h0 (chk_zero hc).2 (chk_zero hc).1
theorem code_any (v : Value) (l : List E) (w : World) (h : Sl w v l) (hn : l.length ≤ 1000000000000) :
    Calls Tryd.prog 7 #[v] w fun e w' => (∃ f, e = .returned (.int .i64 f) ∧ CodeIs l f) ∧ Below w.heap.size w w' := by
  have H1 : Hid (Calls Tryd.prog 15 #[v, .int .i64 128] w fun e w' => e = .returned (.int .i64 (chk l)) ∧ Below w.heap.size w w') := wrong_all v l w h hn
  by_cases hc : chk l = 0
  · have H2 : Hid (∀ w', Below w.heap.size w w' → Calls Tryd.prog 16 #[v] w' fun e w'' => ((InOrd l ∧ e = .returned (.bool true)) ∨ (¬ InOrd l ∧ e = .returned (.bool false))) ∧ Below w'.heap.size w' w'') := fun w' hB => order_all v l w' (h.kept hB) hc
    rw [hc] at H1
    have HC : Hid (chk l = 0) := hc
    clear hc h
    go_enter Tryd.func7, Tryd.ntmps7
    go_wp2_with fail
    refine H1.out.mono ?_
    rintro e w1 ⟨rfl, hB1⟩
    go_wp2_with fail
    refine (H2.out w1 hB1).mono ?_
    rintro e w2 ⟨⟨hO, rfl⟩ | ⟨hO, rfl⟩, hB2⟩
    · have HO : Hid (InOrd l) := hO
      clear hO
      go_wp2
      go_ret
      exact ⟨⟨0, rfl, .inl ⟨HC.out, HO.out, rfl⟩⟩, hB1.trans (hB2.mono hB1.size)⟩
    · have HO : Hid (¬ InOrd l) := hO
      clear hO
      go_wp2
      go_ret
      exact ⟨⟨4, rfl, .inr (.inr ⟨HC.out, HO.out, rfl⟩)⟩, hB1.trans (hB2.mono hB1.size)⟩
  · obtain ⟨C, hC⟩ : ∃ C, chk l = C := ⟨_, rfl⟩
    have HC : Hid (chk l = C) := hC
    rw [hC] at H1 hc
    clear hC h
    have hb : (C == 0) = false := by simpa using hc
    have HD : Hid (C ≠ 0) := hc
    clear hc
    go_enter Tryd.func7, Tryd.ntmps7
    go_wp2_with fail
    refine H1.out.mono ?_
    rintro e w1 ⟨rfl, hB1⟩
    go_wp2
    go_ret
    exact ⟨⟨C, rfl, .inr (.inl ⟨by rw [HC.out]; exact HD.out, HC.out.symm⟩)⟩, hB1⟩
theorem num_any (n : Int) (w : World) : Calls Tryd.prog 9 #[.int .i64 n] w fun e w' => e = .returned (.int .i64 n) ∧ w' = w := by
  go_enter Tryd.func9, Tryd.ntmps9
  go_wp2
  go_ret
  exact ⟨rfl, rfl⟩
end Go.Proofs.YtcbjoogkodcgkaaDoor
