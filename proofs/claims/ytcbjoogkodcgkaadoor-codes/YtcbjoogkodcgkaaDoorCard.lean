/-
  The tied card of the law Codes.
-/
import Derived.Test.YtcbjoogkodcgkaaDoorSaid
import Derived.Test.YtcbjoogkodcgkaaDoorTie
import Derived.Test.YtcbjoogkodcgkaaDoorCards
import Derived.SevenTiedAt
namespace Go.Proofs.YtcbjoogkodcgkaaDoor
open Go

theorem codes_holds : Rows.CodesCardSaid :=
  Claim7.holds_tied_plain_at .later [] [.handle, .sentinel, .sentinel, .sentinel, .sentinel, .sentinel, .sentinel] true Rows.codesCard.stood.harness true
    codes_said (fun _ h => by cases h) (by kernel_rfl) (fun _ h => by cases h) codes_row_tie rfl ⟨rfl, rfl⟩ (by kernel_rfl) rfl
    (fun f fn hf hfn => by
      obtain rfl : f = 3 := Option.some.inj ((show Tryd.prog.funcNamed "tidings/tidingslaw.Codes" = some 3 by kernel_rfl).symm.trans hf) |>.symm
      obtain rfl : fn = Tryd.f3 := (Option.some.inj (Tryd.func3.symm.trans hfn)).symm
      exact ⟨by kernel_rfl, fun j t ht => by
        rw [Tryd.params3] at ht
        have hm : t ∈ [22, 9] := by simpa using Array.mem_of_getElem? ht
        have hall : ([22, 9].all fun u => !Tryd.prog.wantsStandIn u) = true := by kernel_rfl
        exact (show Tryd.prog.wantsStandIn t = false by simpa using List.all_eq_true.1 hall t hm)⟩)
    (by kernel_rfl)
#print axioms codes_holds
end Go.Proofs.YtcbjoogkodcgkaaDoor
