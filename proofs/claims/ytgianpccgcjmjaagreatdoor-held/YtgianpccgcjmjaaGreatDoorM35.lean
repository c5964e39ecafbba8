import Derived.Test.YtgianpccgcjmjaaGreatDoorRows
import Derived.JoinedCond
import Derived.KernelRfl

/- Held: the row's closed facts. -/
namespace Go.Proofs.YtgianpccgcjmjaaGreatDoor

theorem held_f1 : (Rows.heldRow.inPlace == Tryz.pinned.checked.prog.inPlace 3) = true := by kernel_rfl
theorem held_f2 : (Rows.heldRow.unfollowed == Tryz.pinned.checked.prog.unfollowed 3) = true := by kernel_rfl
theorem held_f3 : (Rows.heldRow.recurses == Tryz.pinned.checked.prog.recurses 3) = true := by kernel_rfl
theorem held_f4 : (Rows.heldRow.named == Tryz.pinned.checked.prog.varsNamed 3) = true := by kernel_rfl

theorem held_closed : joinedFacts Tryz.pinned.checked.prog 3 Tryz.f3 (OpenSpec.ofChange Rows.heldSpec).bare Rows.heldRow = true := by
  unfold joinedFacts
  rw [held_f1, held_f2, held_f3, held_f4]
  kernel_rfl

end Go.Proofs.YtgianpccgcjmjaaGreatDoor
