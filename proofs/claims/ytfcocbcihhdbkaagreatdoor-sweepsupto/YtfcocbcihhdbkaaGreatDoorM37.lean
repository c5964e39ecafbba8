import Derived.Test.YtfcocbcihhdbkaaGreatDoorRows
import Derived.JoinedCond
import Derived.KernelRfl

/- Sweeps: the row's closed facts. -/
namespace Go.Proofs.YtfcocbcihhdbkaaGreatDoor

theorem sweeps_f1 : (Rows.sweepsUptoRow.inPlace == Tryz.pinned.checked.prog.inPlace 4) = true := by kernel_rfl
theorem sweeps_f2 : (Rows.sweepsUptoRow.unfollowed == Tryz.pinned.checked.prog.unfollowed 4) = true := by kernel_rfl
theorem sweeps_f3 : (Rows.sweepsUptoRow.recurses == Tryz.pinned.checked.prog.recurses 4) = true := by kernel_rfl
theorem sweeps_f4 : (Rows.sweepsUptoRow.named == Tryz.pinned.checked.prog.varsNamed 4) = true := by kernel_rfl

theorem sweeps_closed : joinedFacts Tryz.pinned.checked.prog 4 Tryz.f4 (Rows.OpenSpec.upto Rows.sweepsSpec).bare Rows.sweepsUptoRow = true := by
  unfold joinedFacts
  rw [sweeps_f1, sweeps_f2, sweeps_f3, sweeps_f4]
  kernel_rfl

end Go.Proofs.YtfcocbcihhdbkaaGreatDoor
