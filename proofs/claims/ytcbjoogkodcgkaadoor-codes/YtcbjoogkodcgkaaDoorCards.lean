/-
  DERIVED. GIVEN WITH THE SEED: THE CARDS: each row of YtcbjoogkodcgkaaDoorRows.lean that lists a variable, with what it lists TIED to the program's text (the seventh form; the later family's looks); each row that meets fmt, with fmt's text TOLD by the authors' own Lean function (tested against real Go, not proved from fmt's source: count such statements apart). THE CARD IS WHAT COUNTS. Prove the row's statement (the work); the ties are given (YtcbjoogkodcgkaaDoorTie.lean); close each card by the builder's one call (the guide's Derived/Test/ToyasCard.lean, 'card_holds'). Laid BY PROGRAM, IN A SANDBOX (cutbox-door.mjs). By AI agents, Wed Nov 11 2026. No macro, syntax, notation, axiom, sorry.
-/
import Derived.Test.YtcbjoogkodcgkaaDoorRows
import GoSem.ClaimSeven
namespace Go.Proofs.YtcbjoogkodcgkaaDoor
namespace Rows

/-- THE TIED CARD OF 'tidingslaw.Codes'. -/
def codesCard : Claim7 := { stood := { row := codesRow, standIns := [], harness := (true, "70e110acaab661bd1a2fda30cbba7ff9d10cc5cc41529951f0f2a6847ab5c6d2"), looks := true }, kinds := [], alts := [], laidByText := true, laidKinds := [.handle, .sentinel, .sentinel, .sentinel, .sentinel, .sentinel, .sentinel], laidTests := true, laidLooks := .later }
def CodesCardSaid : Prop := Claim7.holds Tryd.pinned (.plain (OpenSpec.ofChange codesSpec)) codesCard

/-- THE SECOND FORM's CARD OF 'tidingslaw.Codes'. -/
def codesUptoCard : Claim7 := { stood := { row := codesUptoRow, standIns := [], harness := (true, "70e110acaab661bd1a2fda30cbba7ff9d10cc5cc41529951f0f2a6847ab5c6d2"), looks := true }, kinds := [], alts := [], laidByText := true, laidKinds := [.handle, .sentinel, .sentinel, .sentinel, .sentinel, .sentinel, .sentinel], laidTests := true, laidLooks := .later }
def CodesUptoCardSaid : Prop := Claim7.holds Tryd.pinned (.plain (OpenSpec.upto codesSpec)) codesUptoCard
end Rows
end Go.Proofs.YtcbjoogkodcgkaaDoor
