/- The statement Streams, of streams and texts of bulk at most 1048576: Encode of any streams, Decode and Merge of any texts answer as the document says, lists that came out hold what their owner wrote, and what came in is left as it was: the row and its card. -/
import Derived.Test.YtkpaiaddikpdoaaGreatDoorM25
import Derived.Test.YtkpaiaddikpdoaaGreatDoorM26
import Derived.Test.YtkpaiaddikpdoaaGreatDoorCards
import Derived.Test.YtkpaiaddikpdoaaGreatDoorTie

/- The statement Streams, of streams and texts of bulk at most 1048576: Encode of any streams, Decode and Merge of any texts are the document's; what came in is left as it was: the row and its card. -/
namespace Go.Proofs.YtkpaiaddikpdoaaGreatDoor
open Go.ChangeShapes Go.WideShapes Go.ChangeAt Go.RowKit Go.Deep

theorem streams_said : Rows.StreamsUptoSaid :=
  OpenClaim.holds_of_cond 3 Tryz.f3 rfl rfl rfl rfl rfl rfl rfl ⟨rfl, rfl, rfl, rfl, rfl⟩ rfl rfl rfl rfl rfl (by kernel_rfl) Tryz.func3 streams_closed
    (of_decide_eq_true (by kernel_rfl)) (by unfold Func.isWrapper; first | (rw [if_pos (by decide +kernel)]; kernel_rfl) | (rw [if_neg (by decide +kernel)]; exact ⟨rfl, rfl⟩))
    (fun os started H enc _ F => by rw [OpenClaim.pre_eq_preRow]; exact streams_lifted os started H enc F)

/-- no parameter wants a stand-in -/
theorem streams_plain (f : FuncId) (fn : Func) (hf : Tryz.pinned.checked.prog.funcNamed "annals/annalslaw.Streams" = some f) (hfn : Tryz.pinned.checked.prog.funcs[f]? = some fn) :
    true = Tryz.pinned.checked.prog.looks [] ∧ ∀ (j : Nat) t, fn.params[j]? = some t → Tryz.pinned.checked.prog.wantsStandIn t = false := by
  obtain rfl : f = 3 := Option.some.inj ((show Tryz.prog.funcNamed "annals/annalslaw.Streams" = some 3 by kernel_rfl).symm.trans hf) |>.symm
  obtain rfl : fn = Tryz.f3 := (Option.some.inj (Tryz.func3.symm.trans hfn)).symm
  refine ⟨by kernel_rfl, fun j t ht => ?_⟩
  rw [Tryz.params3] at ht
  have hm : t ∈ #[22, 23] := Array.mem_of_getElem? ht
  simp at hm
  rcases hm with rfl | rfl
  · exact (show Tryz.prog.wantsStandIn 22 = false by kernel_rfl)
  · exact (show Tryz.prog.wantsStandIn 23 = false by kernel_rfl)

theorem streams_card : Rows.StreamsUptoCardSaid :=
  Claim7.holds_tied_plain_at .later [] _ _ _ _ streams_said (fun _ h => by cases h) (by kernel_rfl) (fun _ h => by cases h) streamsUpto_row_tie rfl ⟨rfl, rfl⟩ (by kernel_rfl) rfl streams_plain (by kernel_rfl)

end Go.Proofs.YtkpaiaddikpdoaaGreatDoor
