/-
  DERIVED. GIVEN WITH THE SEED: THE PROGRAM's TIES (one call each: nine closed facts by the kernel) AND EACH ROW's TIE, after the 31st guide's Derived/Test/Toyas{Tie, Card}.lean. No idea stands in it: it is a product of the set-up. Laid BY PROGRAM, IN A SANDBOX (cutbox-door.mjs). By AI agents, Wed Nov 11 2026. No macro, syntax, notation, axiom, sorry.
-/
import Derived.Test.YtfcocbcihhdbkaaGreatDoorRows
import Derived.LaidByTextLater
import Derived.SevenTiedAt
import Derived.LaidSub
import Derived.LaidOnce
namespace Go.Proofs.YtfcocbcihhdbkaaGreatDoor
open Go
set_option maxRecDepth 100000
theorem seatTie1 : Tryz.prog.laidByTextLater [("errors.errorType", Rows.laid_errors_errorType), ("annals/stream.turns", Rows.laid_annals_stream_turns), ("annals/stream.ErrSum", Rows.laid_annals_stream_ErrSum), ("annals/stream.errCut", Rows.laid_annals_stream_errCut), ("annals/stream.errLetters", Rows.laid_annals_stream_errLetters), ("annals/stream.errNumber", Rows.laid_annals_stream_errNumber), ("annals/stream.errBounds", Rows.laid_annals_stream_errBounds), ("annals/stream.errBlock", Rows.laid_annals_stream_errBlock), ("annals/stream.errCount", Rows.laid_annals_stream_errCount), ("annals/stream.errBehind", Rows.laid_annals_stream_errBehind), ("annals/stream.errOther", Rows.laid_annals_stream_errOther), ("annals/stream.errStates", Rows.laid_annals_stream_errStates), ("annals/stream.errMany", Rows.laid_annals_stream_errMany), ("annals/stream.errText", Rows.laid_annals_stream_errText), ("annals/stream.errOrder", Rows.laid_annals_stream_errOrder), ("annals/stream.errGone", Rows.laid_annals_stream_errGone)] [.handle, .data, .sentinel, .sentinel, .sentinel, .sentinel, .sentinel, .sentinel, .sentinel, .sentinel, .sentinel, .sentinel, .sentinel, .sentinel, .sentinel, .sentinel] true :=
  Program.laidByTextLater_by_one 287 8 17 (by kernel_rfl) (by kernel_rfl) (by kernel_rfl) (by kernel_rfl) (by kernel_rfl) (by kernel_rfl) (fun _ _ => by kernel_rfl)
theorem noOwnUnsafe : Tryz.pinned.checked.prog.headLifts.contains "ownunsafe" = false := by kernel_rfl
theorem tie : Tryz.prog.laidByTextLater [("errors.errorType", Rows.laid_errors_errorType), ("annals/stream.turns", Rows.laid_annals_stream_turns), ("annals/stream.ErrSum", Rows.laid_annals_stream_ErrSum), ("annals/stream.errCut", Rows.laid_annals_stream_errCut), ("annals/stream.errLetters", Rows.laid_annals_stream_errLetters), ("annals/stream.errNumber", Rows.laid_annals_stream_errNumber), ("annals/stream.errBounds", Rows.laid_annals_stream_errBounds), ("annals/stream.errBlock", Rows.laid_annals_stream_errBlock), ("annals/stream.errCount", Rows.laid_annals_stream_errCount), ("annals/stream.errBehind", Rows.laid_annals_stream_errBehind), ("annals/stream.errOther", Rows.laid_annals_stream_errOther), ("annals/stream.errStates", Rows.laid_annals_stream_errStates), ("annals/stream.errMany", Rows.laid_annals_stream_errMany), ("annals/stream.errText", Rows.laid_annals_stream_errText), ("annals/stream.errOrder", Rows.laid_annals_stream_errOrder), ("annals/stream.errGone", Rows.laid_annals_stream_errGone)] [.handle, .data, .sentinel, .sentinel, .sentinel, .sentinel, .sentinel, .sentinel, .sentinel, .sentinel, .sentinel, .sentinel, .sentinel, .sentinel, .sentinel, .sentinel] true :=
  Program.laidByTextLater.sub seatTie1 ["errors.errorType", "annals/stream.turns", "annals/stream.ErrSum", "annals/stream.errCut", "annals/stream.errLetters", "annals/stream.errNumber", "annals/stream.errBounds", "annals/stream.errBlock", "annals/stream.errCount", "annals/stream.errBehind", "annals/stream.errOther", "annals/stream.errStates", "annals/stream.errMany", "annals/stream.errText", "annals/stream.errOrder", "annals/stream.errGone"] (by kernel_rfl) (by kernel_rfl)
theorem works_row_tie : Rows.worksRow.laidByTextAt .later Tryz.pinned [.handle, .data, .sentinel, .sentinel, .sentinel, .sentinel, .sentinel, .sentinel, .sentinel, .sentinel, .sentinel, .sentinel, .sentinel, .sentinel, .sentinel, .sentinel] true :=
  OpenClaim.laidByTextAt_later rfl rfl tie noOwnUnsafe
theorem sweeps_row_tie : Rows.sweepsRow.laidByTextAt .later Tryz.pinned [.handle, .data, .sentinel, .sentinel, .sentinel, .sentinel, .sentinel, .sentinel, .sentinel, .sentinel, .sentinel, .sentinel, .sentinel, .sentinel, .sentinel, .sentinel] true :=
  OpenClaim.laidByTextAt_later rfl rfl tie noOwnUnsafe
theorem streams_row_tie : Rows.streamsRow.laidByTextAt .later Tryz.pinned [.handle, .data, .sentinel, .sentinel, .sentinel, .sentinel, .sentinel, .sentinel, .sentinel, .sentinel, .sentinel, .sentinel, .sentinel, .sentinel, .sentinel, .sentinel] true :=
  OpenClaim.laidByTextAt_later rfl rfl tie noOwnUnsafe
theorem copies_row_tie : Rows.copiesRow.laidByTextAt .later Tryz.pinned [.handle, .data, .sentinel, .sentinel, .sentinel, .sentinel, .sentinel, .sentinel, .sentinel, .sentinel, .sentinel, .sentinel, .sentinel, .sentinel, .sentinel, .sentinel] true :=
  OpenClaim.laidByTextAt_later rfl rfl tie noOwnUnsafe
theorem carried_row_tie : Rows.carriedRow.laidByTextAt .later Tryz.pinned [.handle, .data, .sentinel, .sentinel, .sentinel, .sentinel, .sentinel, .sentinel, .sentinel, .sentinel, .sentinel, .sentinel, .sentinel, .sentinel, .sentinel, .sentinel] true :=
  OpenClaim.laidByTextAt_later rfl rfl tie noOwnUnsafe
theorem held_row_tie : Rows.heldRow.laidByTextAt .later Tryz.pinned [.handle, .data, .sentinel, .sentinel, .sentinel, .sentinel, .sentinel, .sentinel, .sentinel, .sentinel, .sentinel, .sentinel, .sentinel, .sentinel, .sentinel, .sentinel] true :=
  OpenClaim.laidByTextAt_later rfl rfl tie noOwnUnsafe
theorem all_row_tie : Rows.allRow.laidByTextAt .later Tryz.pinned [.handle, .data, .sentinel, .sentinel, .sentinel, .sentinel, .sentinel, .sentinel, .sentinel, .sentinel, .sentinel, .sentinel, .sentinel, .sentinel, .sentinel, .sentinel] true :=
  OpenClaim.laidByTextAt_later rfl rfl tie noOwnUnsafe
theorem worksUpto_row_tie : Rows.worksUptoRow.laidByTextAt .later Tryz.pinned [.handle, .data, .sentinel, .sentinel, .sentinel, .sentinel, .sentinel, .sentinel, .sentinel, .sentinel, .sentinel, .sentinel, .sentinel, .sentinel, .sentinel, .sentinel] true :=
  OpenClaim.laidByTextAt_later rfl rfl tie noOwnUnsafe
theorem sweepsUpto_row_tie : Rows.sweepsUptoRow.laidByTextAt .later Tryz.pinned [.handle, .data, .sentinel, .sentinel, .sentinel, .sentinel, .sentinel, .sentinel, .sentinel, .sentinel, .sentinel, .sentinel, .sentinel, .sentinel, .sentinel, .sentinel] true :=
  OpenClaim.laidByTextAt_later rfl rfl tie noOwnUnsafe
theorem streamsUpto_row_tie : Rows.streamsUptoRow.laidByTextAt .later Tryz.pinned [.handle, .data, .sentinel, .sentinel, .sentinel, .sentinel, .sentinel, .sentinel, .sentinel, .sentinel, .sentinel, .sentinel, .sentinel, .sentinel, .sentinel, .sentinel] true :=
  OpenClaim.laidByTextAt_later rfl rfl tie noOwnUnsafe
theorem copiesUpto_row_tie : Rows.copiesUptoRow.laidByTextAt .later Tryz.pinned [.handle, .data, .sentinel, .sentinel, .sentinel, .sentinel, .sentinel, .sentinel, .sentinel, .sentinel, .sentinel, .sentinel, .sentinel, .sentinel, .sentinel, .sentinel] true :=
  OpenClaim.laidByTextAt_later rfl rfl tie noOwnUnsafe
theorem carriedUpto_row_tie : Rows.carriedUptoRow.laidByTextAt .later Tryz.pinned [.handle, .data, .sentinel, .sentinel, .sentinel, .sentinel, .sentinel, .sentinel, .sentinel, .sentinel, .sentinel, .sentinel, .sentinel, .sentinel, .sentinel, .sentinel] true :=
  OpenClaim.laidByTextAt_later rfl rfl tie noOwnUnsafe
theorem heldUpto_row_tie : Rows.heldUptoRow.laidByTextAt .later Tryz.pinned [.handle, .data, .sentinel, .sentinel, .sentinel, .sentinel, .sentinel, .sentinel, .sentinel, .sentinel, .sentinel, .sentinel, .sentinel, .sentinel, .sentinel, .sentinel] true :=
  OpenClaim.laidByTextAt_later rfl rfl tie noOwnUnsafe
theorem allUpto_row_tie : Rows.allUptoRow.laidByTextAt .later Tryz.pinned [.handle, .data, .sentinel, .sentinel, .sentinel, .sentinel, .sentinel, .sentinel, .sentinel, .sentinel, .sentinel, .sentinel, .sentinel, .sentinel, .sentinel, .sentinel] true :=
  OpenClaim.laidByTextAt_later rfl rfl tie noOwnUnsafe
end Go.Proofs.YtfcocbcihhdbkaaGreatDoor
