import Derived.Test.YtpagenipflmlfaaGreatDoorRows
import Derived.JoinedCond
import Derived.KernelRfl

/- Carried: the row's closed facts. -/

namespace Go.Proofs.YtpagenipflmlfaaGreatDoor

theorem carried_f1 : (Rows.carriedRow.inPlace == Tryz.pinned.checked.prog.inPlace 3) = true := by kernel_rfl

theorem carried_f2 : (Rows.carriedRow.unfollowed == Tryz.pinned.checked.prog.unfollowed 3) = true := by kernel_rfl

theorem carried_f3 : (Rows.carriedRow.recurses == Tryz.pinned.checked.prog.recurses 3) = true := by kernel_rfl

theorem carried_f4 : (Rows.carriedRow.named == Tryz.pinned.checked.prog.varsNamed 3) = true := by kernel_rfl

theorem carried_closed : joinedFacts Tryz.pinned.checked.prog 3 Tryz.f3 (OpenSpec.ofChange Rows.carriedSpec).bare Rows.carriedRow = true := by
  unfold joinedFacts
  rw [carried_f1, carried_f2, carried_f3, carried_f4]
  kernel_rfl

end Go.Proofs.YtpagenipflmlfaaGreatDoor
