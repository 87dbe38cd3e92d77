/-
  NARROWER THAN 'FOR EVERY INPUT', by the rows' own cells (each row's printed sentence says how): Codes: laid.
  DERIVED. THE GIVEN ROWS OF THIS SEAT. 1 by the template 'for every input the law returns true; each argument reads behind the call as it read before'; 0 by the template 'total and deterministic' (their statements: YtcbjoogkodcgkaaDoorTotals.lean).
  GIVEN WITH THE SEED: the statements are not yours to turn. If you find one false, say at which input.
  Laid BY PROGRAM, IN A SANDBOX (cutbox-rows.mjs): the forced cells as the released guide's own fill.sh prints them over the translation e2b6ad566a136500… (all of the seat's roots in one cut). By AI agents, Wed Nov 11 2026. No macro, syntax, notation, axiom, sorry.
-/
import Derived.Test.YtcbjoogkodcgkaaDoorChecked
import GoSem.Claim
import GoSem.ClaimJoined
import GoSem.ClaimMapViews
import Derived.JoinedTies
import Derived.KernelRfl
namespace Go.Proofs.YtcbjoogkodcgkaaDoor
/- THE CELL 'sum', in the pinned program and in every row, IS THE sha256 OF THE DUMP (.gsa) THAT YtcbjoogkodcgkaaDoorProg.lean LOADS. Nothing in Lean hashes anything: it is a label: what it is worth is what the hold of that sum in a sandbox is worth. -/
noncomputable def Tryd.pinned : Pinned := { name := "ytcbjoogkodcgkaadoor", sum := "e2b6ad566a1365007fdeedc324c9bdbf4bb307ecd05ecc415f34063d4cf8a6f0", checked := Tryd.checked }
namespace Rows
def none {H : Type} : Left H := { results := [], args := [] }

/- WHAT THE LISTED PACKAGE-LEVEL VARIABLES READ AS WHEN THE CALL BEGINS. Each datum BY PROGRAM (the guide's laid-datum.mjs) off the statement by which the dump's own 'gosem.cut.vars' lays the variable. In a bare row this is a premise. The card (YtcbjoogkodcgkaaDoorCards.lean) ties it to the program's text. -/
def laid_errors_errorType {H : Type} : DataW H := .iface "internal/reflectlite.rtype" (.agg [.ptr (.lit (.string [101, 114, 114, 111, 114]))])
def laid_tidings_code_ErrBytes {H : Type} : DataW H := .iface "*errors.errorString" (.ptr (.agg [.lit (.string [98, 121, 116, 101, 115, 32, 116, 104, 97, 116, 32, 110, 111, 32, 108, 105, 115, 116, 32, 105, 115, 32, 119, 114, 105, 116, 116, 101, 110, 32, 97, 115])]))
def laid_tidings_code_errEnd {H : Type} : DataW H := .iface "*errors.errorString" (.ptr (.agg [.lit (.string [116, 104, 101, 32, 98, 121, 116, 101, 115, 32, 101, 110, 100, 32, 116, 111, 111, 32, 101, 97, 114, 108, 121])]))
def laid_tidings_code_errLength {H : Type} : DataW H := .iface "*errors.errorString" (.ptr (.agg [.lit (.string [109, 111, 114, 101, 32, 98, 121, 116, 101, 115, 32, 116, 104, 97, 110, 32, 97, 110, 121, 32, 108, 105, 115, 116, 32, 104, 97, 115])]))
def laid_tidings_code_errTag {H : Type} : DataW H := .iface "*errors.errorString" (.ptr (.agg [.lit (.string [110, 111, 32, 107, 105, 110, 100, 32, 111, 102, 32, 118, 97, 108, 117, 101])]))
def laid_tidings_code_errNumber {H : Type} : DataW H := .iface "*errors.errorString" (.ptr (.agg [.lit (.string [97, 32, 110, 117, 109, 98, 101, 114, 32, 111, 102, 32, 109, 111, 114, 101, 32, 116, 104, 97, 110, 32, 54, 52, 32, 98, 105, 116, 115])]))
def laid_tidings_code_errAgain {H : Type} : DataW H := .iface "*errors.errorString" (.ptr (.agg [.lit (.string [116, 104, 101, 32, 108, 105, 115, 116, 32, 105, 115, 32, 119, 114, 105, 116, 116, 101, 110, 32, 97, 115, 32, 111, 116, 104, 101, 114, 32, 98, 121, 116, 101, 115])]))

/-- 'tidingslaw.Codes': WHATEVER THE INPUT: true; the input reads as it did. -/
def codesSpec : ChangeSpec := { name := "codes", fn := fun _ => fun
  | [d1, d2] => { results := [.lit (.bool true)], args := [d1, d2] }
  | _ => none }
def codesRow : OpenClaim := { program := "ytcbjoogkodcgkaadoor", sum := "e2b6ad566a1365007fdeedc324c9bdbf4bb307ecd05ecc415f34063d4cf8a6f0", func := "tidings/tidingslaw.Codes", spec := "codes", inPlace := ["internal/bytealg.abigen_runtime_cmpstring", "internal/reflectlite.TypeOf", "internal/reflectlite.ValueOf", "(internal/reflectlite.Value).Type", "(internal/reflectlite.Value).IsNil", "(internal/reflectlite.Value).Elem", "(internal/reflectlite.Value).Set"], unfollowed := true, recurses := true, named := ["tidings/code.ErrBytes", "tidings/code.errLength", "tidings/code.errAgain", "tidings/code.errEnd", "tidings/code.errTag", "tidings/code.errNumber", "errors.errorType"], apart := false, laid := [("errors.errorType", laid_errors_errorType), ("tidings/code.ErrBytes", laid_tidings_code_ErrBytes), ("tidings/code.errEnd", laid_tidings_code_errEnd), ("tidings/code.errLength", laid_tidings_code_errLength), ("tidings/code.errTag", laid_tidings_code_errTag), ("tidings/code.errNumber", laid_tidings_code_errNumber), ("tidings/code.errAgain", laid_tidings_code_errAgain)] }
def CodesSaid : Prop := codesRow.holds Tryd.pinned (OpenSpec.ofChange codesSpec)

/-- ITS FALSE NEIGHBOUR: 'it returns false'. Refute it at one input. -/
def codesWrong : ChangeSpec := { name := "codes", fn := fun _ => fun
  | [d1, d2] => { results := [.lit (.bool false)], args := [d1, d2] }
  | _ => none }
def CodesWrongFalsely : Prop := codesRow.holds Tryd.pinned (OpenSpec.ofChange codesWrong)

/- THE SECOND FORM. 'bulk': how many values and letters a reading holds, each counted each time it is reached (what is shared counts as often as it is met; a slice's spare places count too). A statement '..UptoSaid' is the law's where the arguments, and the package variables that the reading takes, are together of bulk at most 1048576: NARROWER than '..Said'. Prove '..Said' where nothing that the law and all that it calls make is longer than what came in: it says more and counts as full. Else prove '..UptoSaid'. A law counts once. -/
mutual
def uptoBulk {H : Type} : DataW H → Nat
  | .lit (.string bytes) => bytes.length + 1
  | .lit _ => 1
  | .nil => 1
  | .ptr d => uptoBulk d + 1
  | .slice elems spare => uptoBulkAll elems + uptoBulkAll spare + 1
  | .agg parts => uptoBulkAll parts + 1
  | .iface _ d => uptoBulk d + 1
  | .map entries => uptoBulkEntries entries + 1
  | .held _ => 1
def uptoBulkAll {H : Type} : List (DataW H) → Nat
  | [] => 0
  | d :: r => uptoBulk d + uptoBulkAll r
def uptoBulkEntries {H : Type} : List (Lit × DataW H) → Nat
  | [] => 0
  | x :: r => uptoBulkEntry x + uptoBulkEntries r
def uptoBulkEntry {H : Type} : Lit × DataW H → Nat
  | (.string bytes, d) => bytes.length + uptoBulk d + 1
  | (_, d) => uptoBulk d + 1
 end
def uptoSmall : (H : Type) → List (DataW H) → Bool := fun _ ds => decide (uptoBulkAll ds ≤ 1048576)
def OpenSpec.upto (s : _root_.Go.ChangeSpec) : _root_.Go.OpenSpec := { _root_.Go.OpenSpec.ofChange s with cond := some uptoSmall }

/-- 'tidingslaw.Codes', WHERE WHAT IT READS IS OF BULK AT MOST 1048576: true; the input reads as it did. -/
def codesUptoRow : OpenClaim := { program := "ytcbjoogkodcgkaadoor", sum := "e2b6ad566a1365007fdeedc324c9bdbf4bb307ecd05ecc415f34063d4cf8a6f0", func := "tidings/tidingslaw.Codes", spec := "codes", inPlace := ["internal/bytealg.abigen_runtime_cmpstring", "internal/reflectlite.TypeOf", "internal/reflectlite.ValueOf", "(internal/reflectlite.Value).Type", "(internal/reflectlite.Value).IsNil", "(internal/reflectlite.Value).Elem", "(internal/reflectlite.Value).Set"], unfollowed := true, recurses := true, named := ["tidings/code.ErrBytes", "tidings/code.errLength", "tidings/code.errAgain", "tidings/code.errEnd", "tidings/code.errTag", "tidings/code.errNumber", "errors.errorType"], apart := false, laid := [("errors.errorType", laid_errors_errorType), ("tidings/code.ErrBytes", laid_tidings_code_ErrBytes), ("tidings/code.errEnd", laid_tidings_code_errEnd), ("tidings/code.errLength", laid_tidings_code_errLength), ("tidings/code.errTag", laid_tidings_code_errTag), ("tidings/code.errNumber", laid_tidings_code_errNumber), ("tidings/code.errAgain", laid_tidings_code_errAgain)], narrowed := true }
def CodesUptoSaid : Prop := codesUptoRow.holds Tryd.pinned (OpenSpec.upto codesSpec)

end Rows
end Go.Proofs.YtcbjoogkodcgkaaDoor
