import Derived.Test.YtfcocbcihhdbkaaGreatDoorRows
import Derived.JoinedCond
import Derived.KernelRfl

/- Works: the row's closed facts. -/
namespace Go.Proofs.YtfcocbcihhdbkaaGreatDoor

theorem works_closed : joinedFacts Tryz.pinned.checked.prog 3 Tryz.f3 (Rows.OpenSpec.upto Rows.worksSpec).bare Rows.worksUptoRow = true := by kernel_rfl

end Go.Proofs.YtfcocbcihhdbkaaGreatDoor
