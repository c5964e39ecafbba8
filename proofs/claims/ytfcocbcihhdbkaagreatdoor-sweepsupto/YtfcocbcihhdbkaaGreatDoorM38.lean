/- Sweeps holds of every script of bulk at most 1048576: scripts of works, pins and sweeps on two stores in turn are answered as the document answers, what is thrown away counted; the card ties the listed variables to the program's text. -/
import Derived.Test.YtfcocbcihhdbkaaGreatDoorM36
import Derived.Test.YtfcocbcihhdbkaaGreatDoorM37
import Derived.Test.YtfcocbcihhdbkaaGreatDoorCards
import Derived.Test.YtfcocbcihhdbkaaGreatDoorTie

/- The statement Sweeps, of scripts of bulk at most 1048576: whatever the script of works, pins and sweeps on two stores, every answer is the document's, and the script is left as it was. -/
namespace Go.Proofs.YtfcocbcihhdbkaaGreatDoor
open Go.ChangeShapes Go.WideShapes Go.ChangeAt Go.RowKit Go.Deep

theorem sweeps_said : Rows.SweepsUptoSaid :=
  OpenClaim.holds_of_cond 4 Tryz.f4 rfl rfl rfl rfl rfl rfl rfl ⟨rfl, rfl, rfl, rfl, rfl⟩ rfl rfl rfl rfl rfl (by kernel_rfl) Tryz.func4 sweeps_closed
    (of_decide_eq_true (by kernel_rfl)) (by unfold Func.isWrapper; first | (rw [if_pos (by decide +kernel)]; kernel_rfl) | (rw [if_neg (by decide +kernel)]; exact ⟨rfl, rfl⟩))
    (fun os started H enc _ F => by rw [OpenClaim.pre_eq_preRow]; exact sweeps_lifted os started H enc F)

/-- no parameter wants a stand-in -/
theorem sweeps_plain (f : FuncId) (fn : Func) (hf : Tryz.pinned.checked.prog.funcNamed "annals/annalslaw.Sweeps" = some f) (hfn : Tryz.pinned.checked.prog.funcs[f]? = some fn) :
    true = Tryz.pinned.checked.prog.looks [] ∧ ∀ (j : Nat) t, fn.params[j]? = some t → Tryz.pinned.checked.prog.wantsStandIn t = false := by
  obtain rfl : f = 4 := Option.some.inj ((show Tryz.prog.funcNamed "annals/annalslaw.Sweeps" = some 4 by kernel_rfl).symm.trans hf) |>.symm
  obtain rfl : fn = Tryz.f4 := (Option.some.inj (Tryz.func4.symm.trans hfn)).symm
  refine ⟨by kernel_rfl, fun j t ht => ?_⟩
  rw [Tryz.params4] at ht
  obtain rfl : t = 22 := by simpa using Array.mem_of_getElem? ht
  exact (show Tryz.prog.wantsStandIn 22 = false by kernel_rfl)

theorem sweeps_card : Rows.SweepsUptoCardSaid :=
  Claim7.holds_tied_plain_at .later [] _ _ _ _ sweeps_said (fun _ h => by cases h) (by kernel_rfl) (fun _ h => by cases h) sweepsUpto_row_tie rfl ⟨rfl, rfl⟩ (by kernel_rfl) rfl sweeps_plain (by kernel_rfl)

end Go.Proofs.YtfcocbcihhdbkaaGreatDoor
