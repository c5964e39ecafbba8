/- Copies holds of every script of bulk at most 1048576: scripts with copyings that others go on beside, and stores that are made of what they tell, are answered as the document answers; condition: the listed package-level variables hold what the program lays in them, which the card ties to the program's text. -/
import Derived.Test.YtjbkfdeldlajhaaGreatDoorM46
import Derived.Test.YtjbkfdeldlajhaaGreatDoorM47
import Derived.Test.YtjbkfdeldlajhaaGreatDoorCards
import Derived.Test.YtjbkfdeldlajhaaGreatDoorTie
set_option linter.unusedSimpArgs false
namespace Go.Proofs.YtjbkfdeldlajhaaGreatDoor
open Go.ChangeShapes Go.WideShapes Go.ChangeAt Go.RowKit Go.Deep Go.Proofs.Tryz
open Option renaming some->V
theorem Cd:Rows.CopiesUptoSaid:=
 OpenClaim.holds_of_cond 3 Tryz.f3 rfl rfl rfl rfl rfl rfl rfl ⟨rfl,rfl,rfl,rfl,rfl⟩ rfl rfl rfl rfl rfl (by kernel_rfl) func3 ym (RC (by kernel_rfl)) (by unfold Func.isWrapper;first|(rw[fy (by decide+kernel)];kernel_rfl)|(rw[el (by decide+kernel)];exact⟨rfl,rfl⟩)) (λc a H b _ F=>by rw[OpenClaim.pre_eq_preRow];exact yo c a H b F)
theorem Ay(f:FuncId)(a:Func)(d:Tryz.pinned.checked.prog.funcNamed "annals/annalslaw.Copies"=V f)(b:Tryz.pinned.checked.prog.funcs[f]?=V a):true=Tryz.pinned.checked.prog.looks []/\∀(j:Nat) t,a.params[j]?=V t->Tryz.pinned.checked.prog.wantsStandIn t=false:=by
 obtain rfl:f=3:=tv ((show prog.funcNamed "annals/annalslaw.Copies"=V 3 by kernel_rfl).symm.trans d)|>.symm;obtain rfl:a=Tryz.f3:=(tv (func3.symm.trans b)).symm;refine⟨by kernel_rfl,λj t c=>?_⟩;rw[Tryz.params3]at c;obtain rfl:t=22:=by simpa using Array.mem_of_getElem? c
 exact(show prog.wantsStandIn 22=false by kernel_rfl)
theorem copies_card:Rows.CopiesUptoCardSaid:=
 Claim7.holds_tied_plain_at .later [] _ _ _ _ Cd (λ_ h=>by cases h) (by kernel_rfl) (λ_ h=>by cases h) copiesUpto_row_tie rfl ⟨rfl,rfl⟩ (by kernel_rfl) rfl Ay (by kernel_rfl)
end Go.Proofs.YtjbkfdeldlajhaaGreatDoor
