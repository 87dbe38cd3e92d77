/-
  Walks: tidings.Encode, tidings.Decode, over whatever Write, Read and errnoOf are known to answer.
-/
import Derived.Test.YtcbjoogkodcgkaaDoorErrs6
import Derived.Test.YtcbjoogkodcgkaaDoorRw
namespace Go.Proofs.YtcbjoogkodcgkaaDoor
open Go.RowKit Go.Extern.Stop Go.Stop Go.Extern
set_option maxHeartbeats 4000000
set_option maxRecDepth 100000

theorem Encode_of (v : Value) (w : World) (K : Value → Value → World → Prop) (M : Value → Int → World → Prop)
    (h1 : Calls Tryd.prog 14 #[v] w fun e w' => ∃ s x, e = .returned (.tuple #[s, x]) ∧ K s x w')
    (h2 : ∀ s x w', K s x w' → Calls Tryd.prog 13 #[x] w' fun e w'' => ∃ n, e = .returned (.int .i64 n) ∧ M s n w'') :
    Calls Tryd.prog 6 #[v] w fun e w' => ∃ s n, e = .returned (.tuple #[s, .int .i64 n]) ∧ M s n w' := by
  have H1 : Hid (Calls Tryd.prog 14 #[v] w fun e w' => ∃ s x, e = .returned (.tuple #[s, x]) ∧ K s x w') := h1
  have H2 : Hid (∀ s x w', K s x w' → Calls Tryd.prog 13 #[x] w' fun e w'' => ∃ n, e = .returned (.int .i64 n) ∧ M s n w'') := h2
  clear h1 h2
  go_enter Tryd.func6, Tryd.ntmps6
  go_wp2_with fail
  refine H1.out.mono ?_
  rintro e w1 ⟨s, x, rfl, hK⟩
  go_wp2_with fail
  refine (H2.out s x w1 hK).mono ?_
  rintro e w2 ⟨n, rfl, hM⟩
  go_wp2
  go_ret2
  exact ⟨s, n, rfl, hM⟩

theorem Decode_of (v : Value) (w : World) (K : Value → Value → World → Prop) (M : Value → Int → World → Prop)
    (h1 : Calls Tryd.prog 12 #[v] w fun e w' => ∃ s x, e = .returned (.tuple #[s, x]) ∧ K s x w')
    (h2 : ∀ s x w', K s x w' → Calls Tryd.prog 13 #[x] w' fun e w'' => ∃ n, e = .returned (.int .i64 n) ∧ M s n w'') :
    Calls Tryd.prog 4 #[v] w fun e w' => ∃ s n, e = .returned (.tuple #[s, .int .i64 n]) ∧ M s n w' := by
  have H1 : Hid (Calls Tryd.prog 12 #[v] w fun e w' => ∃ s x, e = .returned (.tuple #[s, x]) ∧ K s x w') := h1
  have H2 : Hid (∀ s x w', K s x w' → Calls Tryd.prog 13 #[x] w' fun e w'' => ∃ n, e = .returned (.int .i64 n) ∧ M s n w'') := h2
  clear h1 h2
  go_enter Tryd.func4, Tryd.ntmps4
  go_wp2_with fail
  refine H1.out.mono ?_
  rintro e w1 ⟨s, x, rfl, hK⟩
  go_wp2_with fail
  refine (H2.out s x w1 hK).mono ?_
  rintro e w2 ⟨n, rfl, hM⟩
  go_wp2
  go_ret2
  exact ⟨s, n, rfl, hM⟩

/-- What Decode answers, in all. -/
def DecD (bs : List UInt8) (base : Nat) (w' : World) (s : Value) (n : Int) : Prop :=
  (n = 0 ∧ ∃ es, Decodes bs es ∧ EBuf w' base s es) ∨ (n = 5 ∧ s = .slice none 0 0 ∧ ∀ es, ¬ Decodes bs es)
theorem decode_any (bs : List UInt8) (w : World) (hA : AllS w) (a : Addr) (hg : w.cell? ⟨0, 0, none⟩ = some (tgt a)) :
    Calls Tryd.prog 4 #[.string (mk bs)] w fun e w' => ∃ s n, e = .returned (.tuple #[s, .int .i64 n]) ∧ DecD bs w.heap.size w' s n ∧ Below w.heap.size w w' := by
  refine Decode_of _ w (fun s x w' => ((∃ es, Decodes bs es ∧ x = .nilIface ∧ EBuf w' w.heap.size s es) ∨
      ((∀ es, ¬ Decodes bs es) ∧ s = .slice none 0 0 ∧ ∃ b y, x = .iface 64 (.pointer (some ⟨b, 0, none⟩)) ∧ w'.cell? ⟨b, 0, none⟩ = some (tgt a) ∧ w'.cell? ⟨b, 1, none⟩ = some y ∧ Bd w' 0 2 y)) ∧ Below w.heap.size w w')
    (fun s n w' => DecD bs w.heap.size w' s n ∧ Below w.heap.size w w') ?_ ?_
  · refine (read_any bs w hA a hg).mono ?_
    rintro e w1 ⟨⟨es, v, hD, rfl, hE⟩ | ⟨hN, b, y, rfl, hc⟩, hB⟩
    · exact ⟨_, _, rfl, .inl ⟨es, hD, rfl, hE⟩, hB⟩
    · exact ⟨_, _, rfl, .inr ⟨hN, rfl, b, y, rfl, hc⟩, hB⟩
  · rintro s x w1 ⟨h, hB⟩
    have hg1 : w1.cell? ⟨0, 0, none⟩ = some (tgt a) := (hB.cell (World.block_lt_of_cell? w _ hg)).trans hg
    rcases h with ⟨es, hD, rfl, hE⟩ | ⟨hN, rfl, b, y, rfl, hc, hc1, hd⟩
    · refine (errno_nil a w1 hg1).mono ?_
      rintro e w2 ⟨rfl, rfl⟩
      exact ⟨0, rfl, .inl ⟨rfl, es, hD, hE.al _⟩, hB.alloc hB.size _⟩
    · refine (errno_headed b y a w1 hc hc1 hd hg1).mono ?_
      rintro e w2 ⟨rfl, hB2⟩
      exact ⟨5, rfl, .inr ⟨rfl, rfl, hN⟩, hB.trans (hB2.mono hB.size)⟩
end Go.Proofs.YtcbjoogkodcgkaaDoor
