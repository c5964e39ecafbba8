/- Carried, for every input: a store is written, three states of it are pinned; the first is copied and the deltas from each to the next, while others write on and sweep; the full stream restored, and the deltas applied, are a store with what stood at each state; merged ahead they are the same. Condition: the listed package-level variables hold what the program lays in them when the call begins. -/
import Derived.Test.YtpagenipflmlfaaGreatDoorM35
import Derived.Test.YtpagenipflmlfaaGreatDoorM36
import Derived.Test.YtpagenipflmlfaaGreatDoorCards
import Derived.Test.YtpagenipflmlfaaGreatDoorTie

/- The statement Carried, for every input: a full stream copied while others write on, restored, and the deltas applied, are a store with what stood at each state; merged ahead they are the same: the row and its card. The condition is what the listed package-level variables hold when the call begins. -/

namespace Go.Proofs.YtpagenipflmlfaaGreatDoor

open Go.ChangeShapes Go.WideShapes Go.ChangeAt Go.RowKit Go.Deep

theorem carried_said : Rows.CarriedSaid :=
  OpenClaim.holds_of_cond 3 Tryz.f3 rfl rfl rfl rfl rfl rfl rfl ⟨rfl, rfl, rfl, rfl, rfl⟩ rfl rfl rfl rfl rfl (by kernel_rfl) Tryz.func3 carried_closed
    (of_decide_eq_true (by kernel_rfl)) (by unfold Func.isWrapper; first | (rw [if_pos (by decide +kernel)]; kernel_rfl) | (rw [if_neg (by decide +kernel)]; exact ⟨rfl, rfl⟩))
    (fun os started H enc _ F => by rw [OpenClaim.pre_eq_preRow]; exact carried_lifted os started H enc F)

/-- no parameter wants a stand-in -/
theorem carried_plain (f : FuncId) (fn : Func) (hf : Tryz.pinned.checked.prog.funcNamed "annals/annalskeep.Carried" = some f) (hfn : Tryz.pinned.checked.prog.funcs[f]? = some fn) :
    true = Tryz.pinned.checked.prog.looks [] ∧ ∀ (j : Nat) t, fn.params[j]? = some t → Tryz.pinned.checked.prog.wantsStandIn t = false := by
  obtain rfl : f = 3 := Option.some.inj ((show Tryz.prog.funcNamed "annals/annalskeep.Carried" = some 3 by kernel_rfl).symm.trans hf) |>.symm
  obtain rfl : fn = Tryz.f3 := (Option.some.inj (Tryz.func3.symm.trans hfn)).symm
  refine ⟨by kernel_rfl, fun j t ht => ?_⟩
  rw [Tryz.params3] at ht
  have hm : t ∈ #[22, 22, 22, 22] := Array.mem_of_getElem? ht
  simp at hm
  subst hm
  exact (show Tryz.prog.wantsStandIn 22 = false by kernel_rfl)

theorem carried_card : Rows.CarriedCardSaid :=
  Claim7.holds_tied_plain_at .later [] _ _ _ _ carried_said (fun _ h => by cases h) (by kernel_rfl) (fun _ h => by cases h) carried_row_tie rfl ⟨rfl, rfl⟩ (by kernel_rfl) rfl carried_plain (by kernel_rfl)

end Go.Proofs.YtpagenipflmlfaaGreatDoor
