/- Look: what it counts, of maps that are nil. -/
import Derived.Test.YtfcocbcihhdbkaaSU
namespace Go.Proofs.Ytfcocbcihhdbkaa
open Go.RowKit

theorem range_nil {P : Program} {t kt e : TypeId} (ht : P.underlying t = some (.map kt e)) (w : World) : (Instr.range t (.map none)).run P w = .ok (.pointer (some ⟨w.heap.size, 0, none⟩)) (w.alloc (.mapIter none 0 #[] 0)) := by
  simp [Instr.range, run_underlying ht]

theorem next_nil {P : Program} {r : Nat} (ty : TypeId) (w : World) (h : w.heap[r]? = some (.mapIter none 0 #[] 0)) : (Instr.next (.pointer (some ⟨r, 0, none⟩)) false ty).run P w = .ok (.tuple #[.bool false]) w := by
  have hg : (getObj r).run P w = .ok (.mapIter none 0 #[] 0) w := by simp [getObj, Sem.run, h]
  simp [Instr.next, hg]

theorem len_nil {P : Program} {t kt e i : TypeId} (ht : P.underlying t = some (.map kt e)) (w : World) : (Builtin.len_ #[t] i #[.map none]).run P w = .ok (.int .i64 0) w := by
  simp [Builtin.len_, run_underlying ht, goInt]

set_option maxRecDepth 100000 in
set_option maxHeartbeats 400000 in
theorem allPins_nil (sb : Nat) (w : World) (hc : w.cell? ⟨sb, 4, none⟩ = some (.map none)) :
    Calls Try.prog 27 #[.pointer (some ⟨sb, 0, none⟩)] w fun e w' => e = .returned (.int .i64 0) ∧ Keeps (fun _ => False) w w' := by
  have hrg := range_nil (P := Try.prog) (t := 60) Try.underlying60 w
  have hnx := next_nil (P := Try.prog) (r := w.heap.size) 0 (w.alloc (.mapIter none 0 #[] 0)) (heap_new w _)
  go_enter Try.func27, Try.ntmps27
  go_wp2
  go_loopw [3] (fun i wr => i = .int .i64 0 ∧ wr = w.alloc (.mapIter none 0 #[] 0)) (fun _ _ => 0)
  case atStart => exact ⟨rfl, rfl⟩
  case round =>
    obtain ⟨rfl, rfl⟩ := hrel
    go_wp2
    go_ret
    exact ⟨rfl, Keeps.alloc _ _ _⟩

set_option maxRecDepth 100000 in
set_option maxHeartbeats 400000 in
theorem count_nil (sb : Nat) (w : World) (hc : w.cell? ⟨sb, 8, none⟩ = some (.map none)) :
    Calls Try.prog 28 #[.pointer (some ⟨sb, 7, none⟩)] w fun e w' => e = .returned (.int .i64 0) ∧ Keeps (fun _ => False) w w' := by
  have hrg := range_nil (P := Try.prog) (t := 62) Try.underlying62 w
  have hnx := next_nil (P := Try.prog) (r := w.heap.size) 0 (w.alloc (.mapIter none 0 #[] 0)) (heap_new w _)
  go_enter Try.func28, Try.ntmps28
  go_wp2
  go_loopw [3] (fun i wr => i = .int .i64 0 ∧ wr = w.alloc (.mapIter none 0 #[] 0)) (fun _ _ => 0)
  case atStart => exact ⟨rfl, rfl⟩
  case round =>
    obtain ⟨rfl, rfl⟩ := hrel
    go_wp2
    go_ret
    exact ⟨rfl, Keeps.alloc _ _ _⟩

/-- Count, whatever there is. -/
theorem count_any (R : Rep) (w : World) (h : StoreAt w R) : Calls Try.prog 28 #[.pointer (some ⟨R.sb, 7, none⟩)] w fun e w' => ∃ c : Int, e = .returned (.int .i64 c) ∧ Keeps (fun _ => False) w w' := by
  cases hv : R.vm with
  | none =>
    refine (count_nil R.sb w ((h.cell 8).trans (by rw [← hv]; rfl))).mono ?_
    rintro e w' ⟨rfl, hk⟩
    exact ⟨0, rfl, hk⟩
  | some b => exact count_map R w h b hv

end Go.Proofs.Ytfcocbcihhdbkaa
