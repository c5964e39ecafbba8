import Derived.Test.YtkpaiaddikpdoaaGreatDoorRows
import Derived.JoinedCond
import Derived.KernelRfl

/- Streams: the row's closed facts. -/
namespace Go.Proofs.YtkpaiaddikpdoaaGreatDoor

theorem streams_f1 : (Rows.streamsUptoRow.inPlace == Tryz.pinned.checked.prog.inPlace 3) = true := by kernel_rfl
theorem streams_f2 : (Rows.streamsUptoRow.unfollowed == Tryz.pinned.checked.prog.unfollowed 3) = true := by kernel_rfl
theorem streams_f3 : (Rows.streamsUptoRow.recurses == Tryz.pinned.checked.prog.recurses 3) = true := by kernel_rfl
theorem streams_f4 : (Rows.streamsUptoRow.named == Tryz.pinned.checked.prog.varsNamed 3) = true := by kernel_rfl

theorem streams_closed : joinedFacts Tryz.pinned.checked.prog 3 Tryz.f3 (Rows.OpenSpec.upto Rows.streamsSpec).bare Rows.streamsUptoRow = true := by
  unfold joinedFacts
  rw [streams_f1, streams_f2, streams_f3, streams_f4]
  kernel_rfl

end Go.Proofs.YtkpaiaddikpdoaaGreatDoor
