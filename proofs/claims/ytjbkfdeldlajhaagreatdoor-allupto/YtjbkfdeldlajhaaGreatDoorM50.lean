import Derived.Test.YtjbkfdeldlajhaaGreatDoorM00
import Derived.Test.YtjbkfdeldlajhaaGreatDoorRows
import Derived.JoinedCond
import Derived.KernelRfl
set_option linter.unusedSimpArgs false
namespace Go.Proofs.YtjbkfdeldlajhaaGreatDoor
theorem Pc:(Rows.allUptoRow.inPlace==Tryz.pinned.checked.prog.inPlace 4)=true:=by kernel_rfl
theorem Pd:(Rows.allUptoRow.unfollowed==Tryz.pinned.checked.prog.unfollowed 4)=true:=by kernel_rfl
theorem Pe:(Rows.allUptoRow.recurses==Tryz.pinned.checked.prog.recurses 4)=true:=by kernel_rfl
theorem Pf:(Rows.allUptoRow.named==Tryz.pinned.checked.prog.varsNamed 4)=true:=by kernel_rfl
theorem Ei:joinedFacts Tryz.pinned.checked.prog 4 Tryz.f4 (Rows.OpenSpec.upto Rows.allSpec).bare Rows.allUptoRow=true:=by unfold joinedFacts;rw[Pc,Pd,Pe,Pf];kernel_rfl
end Go.Proofs.YtjbkfdeldlajhaaGreatDoor
