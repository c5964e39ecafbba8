/- Held, for every input: a state that is pinned can be copied, however much is written and swept behind it, and the copy restored is what stood there; what is not held any more is thrown away, and then nothing is below the floor. Condition: the listed package-level variables hold what the program lays in them when the call begins. -/
import Derived.Test.YtgianpccgcjmjaaGreatDoorM34
import Derived.Test.YtgianpccgcjmjaaGreatDoorM35
import Derived.Test.YtgianpccgcjmjaaGreatDoorCards
import Derived.Test.YtgianpccgcjmjaaGreatDoorTie

/- The statement Held, for every input: a state that is pinned can be copied, however much is written and swept behind it; what is not held any more is thrown away, and then nothing is below the floor: the row and its card. The condition is what the listed package-level variables hold when the call begins. -/
namespace Go.Proofs.YtgianpccgcjmjaaGreatDoor
open Go.ChangeShapes Go.WideShapes Go.ChangeAt Go.RowKit Go.Deep

theorem held_said : Rows.HeldSaid :=
  OpenClaim.holds_of_cond 3 Tryz.f3 rfl rfl rfl rfl rfl rfl rfl ⟨rfl, rfl, rfl, rfl, rfl⟩ rfl rfl rfl rfl rfl (by kernel_rfl) Tryz.func3 held_closed
    (of_decide_eq_true (by kernel_rfl)) (by unfold Func.isWrapper; first | (rw [if_pos (by decide +kernel)]; kernel_rfl) | (rw [if_neg (by decide +kernel)]; exact ⟨rfl, rfl⟩))
    (fun os started H enc _ F => by rw [OpenClaim.pre_eq_preRow]; exact held_lifted os started H enc F)

/-- no parameter wants a stand-in -/
theorem held_plain (f : FuncId) (fn : Func) (hf : Tryz.pinned.checked.prog.funcNamed "annals/annalskeep.Held" = some f) (hfn : Tryz.pinned.checked.prog.funcs[f]? = some fn) :
    true = Tryz.pinned.checked.prog.looks [] ∧ ∀ (j : Nat) t, fn.params[j]? = some t → Tryz.pinned.checked.prog.wantsStandIn t = false := by
  obtain rfl : f = 3 := Option.some.inj ((show Tryz.prog.funcNamed "annals/annalskeep.Held" = some 3 by kernel_rfl).symm.trans hf) |>.symm
  obtain rfl : fn = Tryz.f3 := (Option.some.inj (Tryz.func3.symm.trans hfn)).symm
  refine ⟨by kernel_rfl, fun j t ht => ?_⟩
  rw [Tryz.params3] at ht
  have hm : t ∈ #[22, 22] := Array.mem_of_getElem? ht
  simp at hm
  subst hm
  exact (show Tryz.prog.wantsStandIn 22 = false by kernel_rfl)

theorem held_card : Rows.HeldCardSaid :=
  Claim7.holds_tied_plain_at .later [] _ _ _ _ held_said (fun _ h => by cases h) (by kernel_rfl) (fun _ h => by cases h) held_row_tie rfl ⟨rfl, rfl⟩ (by kernel_rfl) rfl held_plain (by kernel_rfl)

end Go.Proofs.YtgianpccgcjmjaaGreatDoor
