import Derived.Test.YtnkcmfbmkokjpaaDoorRows
import Derived.JoinedCond
import Derived.KernelRfl

/- Told: the row's closed facts. -/
namespace Go.Proofs.YtnkcmfbmkokjpaaDoor

theorem told_f1 : (Rows.toldRow.inPlace == Tryd.pinned.checked.prog.inPlace 3) = true := by kernel_rfl
theorem told_f2 : (Rows.toldRow.unfollowed == Tryd.pinned.checked.prog.unfollowed 3) = true := by kernel_rfl
theorem told_f3 : (Rows.toldRow.recurses == Tryd.pinned.checked.prog.recurses 3) = true := by kernel_rfl
theorem told_f4 : (Rows.toldRow.named == Tryd.pinned.checked.prog.varsNamed 3) = true := by kernel_rfl

theorem told_closed : joinedFacts Tryd.pinned.checked.prog 3 Tryd.f3 (OpenSpec.ofChange Rows.toldSpec).bare Rows.toldRow = true := by
  unfold joinedFacts
  rw [told_f1, told_f2, told_f3, told_f4]
  kernel_rfl

end Go.Proofs.YtnkcmfbmkokjpaaDoor
