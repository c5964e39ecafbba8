import Derived.Test.YtfcocbcihhdbkaaGreatDoorRows
import Derived.JoinedCond
import Derived.KernelRfl

/- Works: the row's closed facts. -/
namespace Go.Proofs.YtfcocbcihhdbkaaGreatDoor

theorem works_f1 : (Rows.worksUptoRow.inPlace == Tryz.pinned.checked.prog.inPlace 3) = true := by kernel_rfl
theorem works_f2 : (Rows.worksUptoRow.unfollowed == Tryz.pinned.checked.prog.unfollowed 3) = true := by kernel_rfl
theorem works_f3 : (Rows.worksUptoRow.recurses == Tryz.pinned.checked.prog.recurses 3) = true := by kernel_rfl
theorem works_f4 : (Rows.worksUptoRow.named == Tryz.pinned.checked.prog.varsNamed 3) = true := by kernel_rfl

theorem works_closed : joinedFacts Tryz.pinned.checked.prog 3 Tryz.f3 (Rows.OpenSpec.upto Rows.worksSpec).bare Rows.worksUptoRow = true := by
  unfold joinedFacts
  rw [works_f1, works_f2, works_f3, works_f4]
  kernel_rfl

end Go.Proofs.YtfcocbcihhdbkaaGreatDoor
