/- All holds of every script of bulk at most 1048576: every call, in every order, again and again, each list written full by its owner and each store copied at the end, is answered as the document answers; condition: the listed package-level variables hold what the program lays in them, which the card ties to the program's text. -/
import Derived.Test.YtjbkfdeldlajhaaGreatDoorM49
import Derived.Test.YtjbkfdeldlajhaaGreatDoorM50
import Derived.Test.YtjbkfdeldlajhaaGreatDoorCards
import Derived.Test.YtjbkfdeldlajhaaGreatDoorTie
set_option linter.unusedSimpArgs false
namespace Go.Proofs.YtjbkfdeldlajhaaGreatDoor
open Go.ChangeShapes Go.WideShapes Go.ChangeAt Go.RowKit Go.Deep Go.Proofs.Tryz
open Option renaming some->V
theorem Ld:Rows.AllUptoSaid:=
 OpenClaim.holds_of_cond 4 Tryz.f4 rfl rfl rfl rfl rfl rfl rfl ⟨rfl,rfl,rfl,rfl,rfl⟩ rfl rfl rfl rfl rfl (by kernel_rfl) func4 Ei (RC (by kernel_rfl)) (by unfold Func.isWrapper;first|(rw[fy (by decide+kernel)];kernel_rfl)|(rw[el (by decide+kernel)];exact⟨rfl,rfl⟩)) (λc a H b _ F=>by rw[OpenClaim.pre_eq_preRow];exact Ej c a H b F)
theorem Il(f:FuncId)(a:Func)(d:Tryz.pinned.checked.prog.funcNamed "annals/annalslaw.All"=V f)(b:Tryz.pinned.checked.prog.funcs[f]?=V a):true=Tryz.pinned.checked.prog.looks []/\∀(j:Nat) t,a.params[j]?=V t->Tryz.pinned.checked.prog.wantsStandIn t=false:=by
 obtain rfl:f=4:=tv ((show prog.funcNamed "annals/annalslaw.All"=V 4 by kernel_rfl).symm.trans d)|>.symm;obtain rfl:a=Tryz.f4:=(tv (func4.symm.trans b)).symm;refine⟨by kernel_rfl,λj t c=>?_⟩;rw[Tryz.params4]at c;obtain rfl:t=22:=by simpa using Array.mem_of_getElem? c
 exact(show prog.wantsStandIn 22=false by kernel_rfl)
theorem all_card:Rows.AllUptoCardSaid:=
 Claim7.holds_tied_plain_at .later [] _ _ _ _ Ld (λ_ h=>by cases h) (by kernel_rfl) (λ_ h=>by cases h) allUpto_row_tie rfl ⟨rfl,rfl⟩ (by kernel_rfl) rfl Il (by kernel_rfl)
end Go.Proofs.YtjbkfdeldlajhaaGreatDoor
