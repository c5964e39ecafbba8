/- New: a store at the state 0. -/
import Derived.Test.YtfcocbcihhdbkaaSS
namespace Go.Proofs.Ytfcocbcihhdbkaa
open Go.RowKit

/-- a store that nothing has happened to -/
def Rep.zero (b : Nat) : Rep := ⟨b, 0, 0, 0, none, [], none, [], 0, none, [], .slice none 0 0, [], none, []⟩

set_option maxRecDepth 100000 in
set_option maxHeartbeats 400000 in
theorem new_any (w : World) :
    Calls Try.prog 20 #[] w fun e w' => e = .returned (.pointer (some ⟨w.heap.size, 0, none⟩)) ∧ StoreAt w' (Rep.zero w.heap.size) ∧ Keeps (fun _ => False) w w' := by
  go_enter Try.func20, Try.ntmps20
  go_wp2
  go_ret
  refine ⟨rfl, ⟨heap_new w _, ⟨rfl, fun p hp => (by cases hp), rfl, rfl⟩, ⟨Row.nil _ _ _, rfl, fun p hp => (by cases hp)⟩, by simp [Rep.fp, Rep.fpWorks, Rep.fpPast, Rep.zero, pcOf, Value.ownBlock]⟩, Keeps.alloc _ _ _⟩

theorem tied_zero (b : Nat) : Tied (Rep.zero b) := ⟨List.Pairwise.nil, fun k => rfl, fun p hp => by cases hp⟩

end Go.Proofs.Ytfcocbcihhdbkaa
