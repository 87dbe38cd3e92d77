/-
  DERIVED. GIVEN WITH THE SEED: THE PROGRAM's TIES (one call each: nine closed facts by the kernel) AND EACH ROW's TIE, after the 31st guide's Derived/Test/Toyas{Tie, Card}.lean. No idea stands in it: it is a product of the set-up. Laid BY PROGRAM, IN A SANDBOX (cutbox-door.mjs). By AI agents, Wed Nov 11 2026. No macro, syntax, notation, axiom, sorry.
-/
import Derived.Test.YtcbjoogkodcgkaaDoorRows
import Derived.LaidByTextLater
import Derived.SevenTiedAt
import Derived.LaidSub
import Derived.LaidOnce
namespace Go.Proofs.YtcbjoogkodcgkaaDoor
open Go
set_option maxRecDepth 100000
theorem seatTie1 : Tryd.prog.laidByTextLater [("errors.errorType", Rows.laid_errors_errorType), ("tidings/code.ErrBytes", Rows.laid_tidings_code_ErrBytes), ("tidings/code.errEnd", Rows.laid_tidings_code_errEnd), ("tidings/code.errLength", Rows.laid_tidings_code_errLength), ("tidings/code.errTag", Rows.laid_tidings_code_errTag), ("tidings/code.errNumber", Rows.laid_tidings_code_errNumber), ("tidings/code.errAgain", Rows.laid_tidings_code_errAgain)] [.handle, .sentinel, .sentinel, .sentinel, .sentinel, .sentinel, .sentinel] true :=
  Program.laidByTextLater_by_one 130 8 2 (by kernel_rfl) (by kernel_rfl) (by kernel_rfl) (by kernel_rfl) (by kernel_rfl) (by kernel_rfl) (fun _ _ => by kernel_rfl)
theorem noOwnUnsafe : Tryd.pinned.checked.prog.headLifts.contains "ownunsafe" = false := by kernel_rfl
theorem tie : Tryd.prog.laidByTextLater [("errors.errorType", Rows.laid_errors_errorType), ("tidings/code.ErrBytes", Rows.laid_tidings_code_ErrBytes), ("tidings/code.errEnd", Rows.laid_tidings_code_errEnd), ("tidings/code.errLength", Rows.laid_tidings_code_errLength), ("tidings/code.errTag", Rows.laid_tidings_code_errTag), ("tidings/code.errNumber", Rows.laid_tidings_code_errNumber), ("tidings/code.errAgain", Rows.laid_tidings_code_errAgain)] [.handle, .sentinel, .sentinel, .sentinel, .sentinel, .sentinel, .sentinel] true :=
  Program.laidByTextLater.sub seatTie1 ["errors.errorType", "tidings/code.ErrBytes", "tidings/code.errEnd", "tidings/code.errLength", "tidings/code.errTag", "tidings/code.errNumber", "tidings/code.errAgain"] (by kernel_rfl) (by kernel_rfl)
theorem codes_row_tie : Rows.codesRow.laidByTextAt .later Tryd.pinned [.handle, .sentinel, .sentinel, .sentinel, .sentinel, .sentinel, .sentinel] true :=
  OpenClaim.laidByTextAt_later rfl rfl tie noOwnUnsafe
theorem codesUpto_row_tie : Rows.codesUptoRow.laidByTextAt .later Tryd.pinned [.handle, .sentinel, .sentinel, .sentinel, .sentinel, .sentinel, .sentinel] true :=
  OpenClaim.laidByTextAt_later rfl rfl tie noOwnUnsafe
end Go.Proofs.YtcbjoogkodcgkaaDoor
