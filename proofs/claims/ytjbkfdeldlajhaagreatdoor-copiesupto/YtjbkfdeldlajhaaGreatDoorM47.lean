import Derived.Test.YtjbkfdeldlajhaaGreatDoorRows
import Derived.JoinedCond
import Derived.KernelRfl
set_option linter.unusedSimpArgs false
namespace Go.Proofs.YtjbkfdeldlajhaaGreatDoor
theorem II:(Rows.copiesUptoRow.inPlace==Tryz.pinned.checked.prog.inPlace 3)=true:=by kernel_rfl
theorem IJ:(Rows.copiesUptoRow.unfollowed==Tryz.pinned.checked.prog.unfollowed 3)=true:=by kernel_rfl
theorem IK:(Rows.copiesUptoRow.recurses==Tryz.pinned.checked.prog.recurses 3)=true:=by kernel_rfl
theorem IL:(Rows.copiesUptoRow.named==Tryz.pinned.checked.prog.varsNamed 3)=true:=by kernel_rfl
theorem ym:joinedFacts Tryz.pinned.checked.prog 3 Tryz.f3 (Rows.OpenSpec.upto Rows.copiesSpec).bare Rows.copiesUptoRow=true:=by unfold joinedFacts;rw[II,IJ,IK,IL];kernel_rfl
end Go.Proofs.YtjbkfdeldlajhaaGreatDoor
