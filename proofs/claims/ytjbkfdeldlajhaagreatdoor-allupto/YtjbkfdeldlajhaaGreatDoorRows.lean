/-
  NARROWER THAN 'FOR EVERY INPUT', by the rows' own cells (each row's printed sentence says how): Copies: laid · All: laid.
  DERIVED. THE GIVEN ROWS OF THIS SEAT. 2 by the template 'for every input the law returns true; each argument reads behind the call as it read before'; 0 by the template 'total and deterministic' (their statements: YtjbkfdeldlajhaaGreatDoorTotals.lean).
  GIVEN WITH THE SEED: the statements are not yours to turn. If you find one false, say at which input.
  Laid BY PROGRAM, IN A SANDBOX (cutbox-rows.mjs): the forced cells as the released guide's own fill.sh prints them over the translation 6573d89ccbd4d94e… (all of the seat's roots in one cut). By AI agents, Wed Nov 11 2026. No macro, syntax, notation, axiom, sorry.
-/
import Derived.Test.YtjbkfdeldlajhaaGreatDoorChecked
import GoSem.Claim
import GoSem.ClaimJoined
import GoSem.ClaimMapViews
import Derived.JoinedTies
import Derived.KernelRfl
namespace Go.Proofs.YtjbkfdeldlajhaaGreatDoor
/- THE CELL 'sum', in the pinned program and in every row, IS THE sha256 OF THE DUMP (.gsa) THAT YtjbkfdeldlajhaaGreatDoorProg.lean LOADS. Nothing in Lean hashes anything: it is a label: what it is worth is what the hold of that sum in a sandbox is worth. -/
noncomputable def Tryz.pinned : Pinned := { name := "ytjbkfdeldlajhaagreatdoor", sum := "6573d89ccbd4d94ed7dc03ea76cf8700ea73eaf30d1814143dcc2ab8f4cd9422", checked := Tryz.checked }
namespace Rows
def none {H : Type} : Left H := { results := [], args := [] }

/- WHAT THE LISTED PACKAGE-LEVEL VARIABLES READ AS WHEN THE CALL BEGINS. Each datum BY PROGRAM (the guide's laid-datum.mjs) off the statement by which the dump's own 'gosem.cut.vars' lays the variable. In a bare row this is a premise. The card (YtjbkfdeldlajhaaGreatDoorCards.lean) ties it to the program's text. -/
def laid_errors_errorType {H : Type} : DataW H := .iface "internal/reflectlite.rtype" (.agg [.ptr (.lit (.string [101, 114, 114, 111, 114]))])
def laid_annals_stream_turns {H : Type} : DataW H := .agg [.lit (.int .u32 0), .lit (.int .u32 498536548), .lit (.int .u32 997073096), .lit (.int .u32 651767980), .lit (.int .u32 1994146192), .lit (.int .u32 1802195444), .lit (.int .u32 1303535960), .lit (.int .u32 1342533948), .lit (.int .u32 3988292384), .lit (.int .u32 4027552580), .lit (.int .u32 3604390888), .lit (.int .u32 3412177804), .lit (.int .u32 2607071920), .lit (.int .u32 2262029012), .lit (.int .u32 2685067896), .lit (.int .u32 3183342108)]
def laid_annals_stream_ErrSum {H : Type} : DataW H := .iface "*errors.errorString" (.ptr (.agg [.lit (.string [97, 110, 111, 116, 104, 101, 114, 32, 99, 104, 101, 99, 107])]))
def laid_annals_stream_errCut {H : Type} : DataW H := .iface "*errors.errorString" (.ptr (.agg [.lit (.string [99, 117, 116, 32, 111, 102, 102])]))
def laid_annals_stream_errLetters {H : Type} : DataW H := .iface "*errors.errorString" (.ptr (.agg [.lit (.string [111, 116, 104, 101, 114, 32, 108, 101, 116, 116, 101, 114, 115])]))
def laid_annals_stream_errNumber {H : Type} : DataW H := .iface "*errors.errorString" (.ptr (.agg [.lit (.string [110, 111, 32, 110, 117, 109, 98, 101, 114])]))
def laid_annals_stream_errBounds {H : Type} : DataW H := .iface "*errors.errorString" (.ptr (.agg [.lit (.string [97, 32, 110, 117, 109, 98, 101, 114, 32, 111, 117, 116, 32, 111, 102, 32, 105, 116, 115, 32, 98, 111, 117, 110, 100, 115])]))
def laid_annals_stream_errBlock {H : Type} : DataW H := .iface "*errors.errorString" (.ptr (.agg [.lit (.string [97, 110, 111, 116, 104, 101, 114, 32, 99, 104, 101, 99, 107, 32, 111, 102, 32, 97, 32, 98, 108, 111, 99, 107])]))
def laid_annals_stream_errCount {H : Type} : DataW H := .iface "*errors.errorString" (.ptr (.agg [.lit (.string [97, 110, 111, 116, 104, 101, 114, 32, 110, 117, 109, 98, 101, 114, 32, 111, 102, 32, 114, 101, 99, 111, 114, 100, 115])]))
def laid_annals_stream_errBehind {H : Type} : DataW H := .iface "*errors.errorString" (.ptr (.agg [.lit (.string [115, 111, 109, 101, 116, 104, 105, 110, 103, 32, 98, 101, 104, 105, 110, 100, 32, 116, 104, 101, 32, 101, 110, 100])]))
def laid_annals_stream_errOther {H : Type} : DataW H := .iface "*errors.errorString" (.ptr (.agg [.lit (.string [110, 111, 116, 32, 97, 115, 32, 116, 104, 101, 32, 115, 116, 114, 101, 97, 109, 32, 105, 115, 32, 119, 114, 105, 116, 116, 101, 110])]))
def laid_annals_stream_errStates {H : Type} : DataW H := .iface "*errors.errorString" (.ptr (.agg [.lit (.string [110, 111, 32, 115, 116, 97, 116, 101, 115, 32, 111, 102, 32, 97, 32, 115, 116, 114, 101, 97, 109])]))
def laid_annals_stream_errMany {H : Type} : DataW H := .iface "*errors.errorString" (.ptr (.agg [.lit (.string [116, 111, 111, 32, 109, 97, 110, 121, 32, 114, 101, 99, 111, 114, 100, 115])]))
def laid_annals_stream_errText {H : Type} : DataW H := .iface "*errors.errorString" (.ptr (.agg [.lit (.string [110, 111, 32, 107, 101, 121, 44, 32, 111, 114, 32, 110, 111, 32, 118, 97, 108, 117, 101])]))
def laid_annals_stream_errOrder {H : Type} : DataW H := .iface "*errors.errorString" (.ptr (.agg [.lit (.string [107, 101, 121, 115, 32, 116, 104, 97, 116, 32, 100, 111, 32, 110, 111, 116, 32, 114, 105, 115, 101])]))
def laid_annals_stream_errGone {H : Type} : DataW H := .iface "*errors.errorString" (.ptr (.agg [.lit (.string [103, 111, 110, 101, 32, 105, 110, 32, 97, 32, 102, 117, 108, 108, 32, 115, 116, 114, 101, 97, 109, 44, 32, 111, 114, 32, 119, 105, 116, 104, 32, 97, 32, 118, 97, 108, 117, 101])]))

/-- 'annalslaw.Copies': WHATEVER THE INPUT: true; the input reads as it did. -/
def copiesSpec : ChangeSpec := { name := "copies", fn := fun _ => fun
  | [d] => { results := [.lit (.bool true)], args := [d] }
  | _ => none }
def copiesRow : OpenClaim := { program := "ytjbkfdeldlajhaagreatdoor", sum := "6573d89ccbd4d94ed7dc03ea76cf8700ea73eaf30d1814143dcc2ab8f4cd9422", func := "annals/annalslaw.Copies", spec := "copies", inPlace := ["slices.overlaps[string]", "internal/abi.NoEscape", "internal/reflectlite.TypeOf", "internal/reflectlite.ValueOf", "(internal/reflectlite.Value).Type", "(internal/reflectlite.Value).IsNil", "(internal/reflectlite.Value).Elem", "(internal/reflectlite.Value).Set"], unfollowed := true, recurses := true, named := ["annals/stream.errStates", "annals/stream.errMany", "annals/stream.errText", "annals/stream.errOrder", "annals/stream.errGone", "annals/stream.turns", "annals/stream.ErrSum", "annals/stream.errOther", "annals/stream.errLetters", "annals/stream.errCut", "annals/stream.errNumber", "annals/stream.errBlock", "annals/stream.errBounds", "annals/stream.errCount", "annals/stream.errBehind", "errors.errorType"], apart := false, laid := [("errors.errorType", laid_errors_errorType), ("annals/stream.turns", laid_annals_stream_turns), ("annals/stream.ErrSum", laid_annals_stream_ErrSum), ("annals/stream.errCut", laid_annals_stream_errCut), ("annals/stream.errLetters", laid_annals_stream_errLetters), ("annals/stream.errNumber", laid_annals_stream_errNumber), ("annals/stream.errBounds", laid_annals_stream_errBounds), ("annals/stream.errBlock", laid_annals_stream_errBlock), ("annals/stream.errCount", laid_annals_stream_errCount), ("annals/stream.errBehind", laid_annals_stream_errBehind), ("annals/stream.errOther", laid_annals_stream_errOther), ("annals/stream.errStates", laid_annals_stream_errStates), ("annals/stream.errMany", laid_annals_stream_errMany), ("annals/stream.errText", laid_annals_stream_errText), ("annals/stream.errOrder", laid_annals_stream_errOrder), ("annals/stream.errGone", laid_annals_stream_errGone)] }
def CopiesSaid : Prop := copiesRow.holds Tryz.pinned (OpenSpec.ofChange copiesSpec)

/-- ITS FALSE NEIGHBOUR: 'it returns false'. Refute it at one input. -/
def copiesWrong : ChangeSpec := { name := "copies", fn := fun _ => fun
  | [d] => { results := [.lit (.bool false)], args := [d] }
  | _ => none }
def CopiesWrongFalsely : Prop := copiesRow.holds Tryz.pinned (OpenSpec.ofChange copiesWrong)

/-- 'annalslaw.All': WHATEVER THE INPUT: true; the input reads as it did. -/
def allSpec : ChangeSpec := { name := "all", fn := fun _ => fun
  | [d] => { results := [.lit (.bool true)], args := [d] }
  | _ => none }
def allRow : OpenClaim := { program := "ytjbkfdeldlajhaagreatdoor", sum := "6573d89ccbd4d94ed7dc03ea76cf8700ea73eaf30d1814143dcc2ab8f4cd9422", func := "annals/annalslaw.All", spec := "all", inPlace := ["slices.overlaps[string]", "internal/abi.NoEscape", "internal/reflectlite.TypeOf", "internal/reflectlite.ValueOf", "(internal/reflectlite.Value).Type", "(internal/reflectlite.Value).IsNil", "(internal/reflectlite.Value).Elem", "(internal/reflectlite.Value).Set"], unfollowed := true, recurses := true, named := ["annals/stream.errStates", "annals/stream.errMany", "annals/stream.errText", "annals/stream.errOrder", "annals/stream.errGone", "annals/stream.turns", "annals/stream.ErrSum", "annals/stream.errOther", "annals/stream.errLetters", "annals/stream.errCut", "annals/stream.errNumber", "annals/stream.errBlock", "annals/stream.errBounds", "annals/stream.errCount", "annals/stream.errBehind", "errors.errorType"], apart := false, laid := [("errors.errorType", laid_errors_errorType), ("annals/stream.turns", laid_annals_stream_turns), ("annals/stream.ErrSum", laid_annals_stream_ErrSum), ("annals/stream.errCut", laid_annals_stream_errCut), ("annals/stream.errLetters", laid_annals_stream_errLetters), ("annals/stream.errNumber", laid_annals_stream_errNumber), ("annals/stream.errBounds", laid_annals_stream_errBounds), ("annals/stream.errBlock", laid_annals_stream_errBlock), ("annals/stream.errCount", laid_annals_stream_errCount), ("annals/stream.errBehind", laid_annals_stream_errBehind), ("annals/stream.errOther", laid_annals_stream_errOther), ("annals/stream.errStates", laid_annals_stream_errStates), ("annals/stream.errMany", laid_annals_stream_errMany), ("annals/stream.errText", laid_annals_stream_errText), ("annals/stream.errOrder", laid_annals_stream_errOrder), ("annals/stream.errGone", laid_annals_stream_errGone)] }
def AllSaid : Prop := allRow.holds Tryz.pinned (OpenSpec.ofChange allSpec)

/-- ITS FALSE NEIGHBOUR: 'it returns false'. Refute it at one input. -/
def allWrong : ChangeSpec := { name := "all", fn := fun _ => fun
  | [d] => { results := [.lit (.bool false)], args := [d] }
  | _ => none }
def AllWrongFalsely : Prop := allRow.holds Tryz.pinned (OpenSpec.ofChange allWrong)

/- THE SECOND FORM. 'bulk': how many values and letters a reading holds, each counted each time it is reached (what is shared counts as often as it is met; a slice's spare places count too). A statement '..UptoSaid' is the law's where the arguments, and the package variables that the reading takes, are together of bulk at most 1048576: NARROWER than '..Said'. Prove '..Said' where nothing that the law and all that it calls make is longer than what came in: it says more and counts as full. Else prove '..UptoSaid'. A law counts once. -/
mutual
def uptoBulk {H : Type} : DataW H → Nat
  | .lit (.string bytes) => bytes.length + 1
  | .lit _ => 1
  | .nil => 1
  | .ptr d => uptoBulk d + 1
  | .slice elems spare => uptoBulkAll elems + uptoBulkAll spare + 1
  | .agg parts => uptoBulkAll parts + 1
  | .iface _ d => uptoBulk d + 1
  | .map entries => uptoBulkEntries entries + 1
  | .held _ => 1
def uptoBulkAll {H : Type} : List (DataW H) → Nat
  | [] => 0
  | d :: r => uptoBulk d + uptoBulkAll r
def uptoBulkEntries {H : Type} : List (Lit × DataW H) → Nat
  | [] => 0
  | x :: r => uptoBulkEntry x + uptoBulkEntries r
def uptoBulkEntry {H : Type} : Lit × DataW H → Nat
  | (.string bytes, d) => bytes.length + uptoBulk d + 1
  | (_, d) => uptoBulk d + 1
 end
def uptoSmall : (H : Type) → List (DataW H) → Bool := fun _ ds => decide (uptoBulkAll ds ≤ 1048576)
def OpenSpec.upto (s : _root_.Go.ChangeSpec) : _root_.Go.OpenSpec := { _root_.Go.OpenSpec.ofChange s with cond := some uptoSmall }

/-- 'annalslaw.Copies', WHERE WHAT IT READS IS OF BULK AT MOST 1048576: true; the input reads as it did. -/
def copiesUptoRow : OpenClaim := { program := "ytjbkfdeldlajhaagreatdoor", sum := "6573d89ccbd4d94ed7dc03ea76cf8700ea73eaf30d1814143dcc2ab8f4cd9422", func := "annals/annalslaw.Copies", spec := "copies", inPlace := ["slices.overlaps[string]", "internal/abi.NoEscape", "internal/reflectlite.TypeOf", "internal/reflectlite.ValueOf", "(internal/reflectlite.Value).Type", "(internal/reflectlite.Value).IsNil", "(internal/reflectlite.Value).Elem", "(internal/reflectlite.Value).Set"], unfollowed := true, recurses := true, named := ["annals/stream.errStates", "annals/stream.errMany", "annals/stream.errText", "annals/stream.errOrder", "annals/stream.errGone", "annals/stream.turns", "annals/stream.ErrSum", "annals/stream.errOther", "annals/stream.errLetters", "annals/stream.errCut", "annals/stream.errNumber", "annals/stream.errBlock", "annals/stream.errBounds", "annals/stream.errCount", "annals/stream.errBehind", "errors.errorType"], apart := false, laid := [("errors.errorType", laid_errors_errorType), ("annals/stream.turns", laid_annals_stream_turns), ("annals/stream.ErrSum", laid_annals_stream_ErrSum), ("annals/stream.errCut", laid_annals_stream_errCut), ("annals/stream.errLetters", laid_annals_stream_errLetters), ("annals/stream.errNumber", laid_annals_stream_errNumber), ("annals/stream.errBounds", laid_annals_stream_errBounds), ("annals/stream.errBlock", laid_annals_stream_errBlock), ("annals/stream.errCount", laid_annals_stream_errCount), ("annals/stream.errBehind", laid_annals_stream_errBehind), ("annals/stream.errOther", laid_annals_stream_errOther), ("annals/stream.errStates", laid_annals_stream_errStates), ("annals/stream.errMany", laid_annals_stream_errMany), ("annals/stream.errText", laid_annals_stream_errText), ("annals/stream.errOrder", laid_annals_stream_errOrder), ("annals/stream.errGone", laid_annals_stream_errGone)], narrowed := true }
def CopiesUptoSaid : Prop := copiesUptoRow.holds Tryz.pinned (OpenSpec.upto copiesSpec)

/-- 'annalslaw.All', WHERE WHAT IT READS IS OF BULK AT MOST 1048576: true; the input reads as it did. -/
def allUptoRow : OpenClaim := { program := "ytjbkfdeldlajhaagreatdoor", sum := "6573d89ccbd4d94ed7dc03ea76cf8700ea73eaf30d1814143dcc2ab8f4cd9422", func := "annals/annalslaw.All", spec := "all", inPlace := ["slices.overlaps[string]", "internal/abi.NoEscape", "internal/reflectlite.TypeOf", "internal/reflectlite.ValueOf", "(internal/reflectlite.Value).Type", "(internal/reflectlite.Value).IsNil", "(internal/reflectlite.Value).Elem", "(internal/reflectlite.Value).Set"], unfollowed := true, recurses := true, named := ["annals/stream.errStates", "annals/stream.errMany", "annals/stream.errText", "annals/stream.errOrder", "annals/stream.errGone", "annals/stream.turns", "annals/stream.ErrSum", "annals/stream.errOther", "annals/stream.errLetters", "annals/stream.errCut", "annals/stream.errNumber", "annals/stream.errBlock", "annals/stream.errBounds", "annals/stream.errCount", "annals/stream.errBehind", "errors.errorType"], apart := false, laid := [("errors.errorType", laid_errors_errorType), ("annals/stream.turns", laid_annals_stream_turns), ("annals/stream.ErrSum", laid_annals_stream_ErrSum), ("annals/stream.errCut", laid_annals_stream_errCut), ("annals/stream.errLetters", laid_annals_stream_errLetters), ("annals/stream.errNumber", laid_annals_stream_errNumber), ("annals/stream.errBounds", laid_annals_stream_errBounds), ("annals/stream.errBlock", laid_annals_stream_errBlock), ("annals/stream.errCount", laid_annals_stream_errCount), ("annals/stream.errBehind", laid_annals_stream_errBehind), ("annals/stream.errOther", laid_annals_stream_errOther), ("annals/stream.errStates", laid_annals_stream_errStates), ("annals/stream.errMany", laid_annals_stream_errMany), ("annals/stream.errText", laid_annals_stream_errText), ("annals/stream.errOrder", laid_annals_stream_errOrder), ("annals/stream.errGone", laid_annals_stream_errGone)], narrowed := true }
def AllUptoSaid : Prop := allUptoRow.holds Tryz.pinned (OpenSpec.upto allSpec)

end Rows
end Go.Proofs.YtjbkfdeldlajhaaGreatDoor
