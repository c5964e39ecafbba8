/- The deferred functions of the calls. -/
import Derived.Test.YtfcocbcihhdbkaaW3
namespace Go.Proofs.Ytfcocbcihhdbkaa
open Go.RowKit

set_option maxRecDepth 100000 in
set_option maxHeartbeats 400000 in
theorem begin1_ok (cb eb : Nat) (w : World) (he : w.cell? ⟨eb, 0, none⟩ = some (.int .i64 0)) :
    CallsD Try.prog 21 #[.pointer (some ⟨cb, 0, none⟩), .pointer (some ⟨eb, 0, none⟩)] .returning w fun e u' w' => e = .returned (.tuple #[]) ∧ u' = .returning ∧ w' = w := by
  refine callsD_of_wpS Try.func21 rfl fun c₀ cs hu => ?_
  apply wpS_region
  simp [wpOpsS, go_sem, recoverD, hu, Try.ntmps21]
  refine (settle_ok cb eb w he).mono ?_
  rintro e w1 ⟨rfl, rfl⟩
  cases c₀
  simp_all [bodyPostS, results, Try.results21]

set_option maxRecDepth 100000 in
set_option maxHeartbeats 400000 in
theorem begin1_none (cb eb : Nat) (n : Int) (hn : 1 ≤ n ∧ n ≤ 9) (w : World) (hc : w.cell? ⟨cb, 0, none⟩ = some (.slice none 0 0)) (he : w.cell? ⟨eb, 0, none⟩ = some (.int .i64 n)) :
    CallsD Try.prog 21 #[.pointer (some ⟨cb, 0, none⟩), .pointer (some ⟨eb, 0, none⟩)] .returning w fun e u' w' => e = .returned (.tuple #[]) ∧ u' = .returning ∧ Keeps (fun _ => False) w w' := by
  refine callsD_of_wpS Try.func21 rfl fun c₀ cs hu => ?_
  apply wpS_region
  simp [wpOpsS, go_sem, recoverD, hu, Try.ntmps21]
  refine (settle_none cb eb n hn w hc he).mono ?_
  rintro e w1 ⟨rfl, hk⟩
  cases c₀
  simp_all [bodyPostS, results, Try.results21]

set_option maxRecDepth 100000 in
set_option maxHeartbeats 400000 in
theorem write1_ok (cb eb : Nat) (w : World) (he : w.cell? ⟨eb, 0, none⟩ = some (.int .i64 0)) :
    CallsD Try.prog 47 #[.pointer (some ⟨cb, 0, none⟩), .pointer (some ⟨eb, 0, none⟩)] .returning w fun e u' w' => e = .returned (.tuple #[]) ∧ u' = .returning ∧ w' = w := by
  refine callsD_of_wpS Try.func47 rfl fun c₀ cs hu => ?_
  apply wpS_region
  simp [wpOpsS, go_sem, recoverD, hu, Try.ntmps47]
  refine (settle_ok cb eb w he).mono ?_
  rintro e w1 ⟨rfl, rfl⟩
  cases c₀
  simp_all [bodyPostS, results, Try.results47]

set_option maxRecDepth 100000 in
set_option maxHeartbeats 400000 in
theorem write1_none (cb eb : Nat) (n : Int) (hn : 1 ≤ n ∧ n ≤ 9) (w : World) (hc : w.cell? ⟨cb, 0, none⟩ = some (.slice none 0 0)) (he : w.cell? ⟨eb, 0, none⟩ = some (.int .i64 n)) :
    CallsD Try.prog 47 #[.pointer (some ⟨cb, 0, none⟩), .pointer (some ⟨eb, 0, none⟩)] .returning w fun e u' w' => e = .returned (.tuple #[]) ∧ u' = .returning ∧ Keeps (fun _ => False) w w' := by
  refine callsD_of_wpS Try.func47 rfl fun c₀ cs hu => ?_
  apply wpS_region
  simp [wpOpsS, go_sem, recoverD, hu, Try.ntmps47]
  refine (settle_none cb eb n hn w hc he).mono ?_
  rintro e w1 ⟨rfl, hk⟩
  cases c₀
  simp_all [bodyPostS, results, Try.results47]

set_option maxRecDepth 100000 in
set_option maxHeartbeats 400000 in
theorem commit1_ok (cb eb : Nat) (w : World) (he : w.cell? ⟨eb, 0, none⟩ = some (.int .i64 0)) :
    CallsD Try.prog 29 #[.pointer (some ⟨cb, 0, none⟩), .pointer (some ⟨eb, 0, none⟩)] .returning w fun e u' w' => e = .returned (.tuple #[]) ∧ u' = .returning ∧ w' = w := by
  refine callsD_of_wpS Try.func29 rfl fun c₀ cs hu => ?_
  apply wpS_region
  simp [wpOpsS, go_sem, recoverD, hu, Try.ntmps29]
  refine (settle_ok cb eb w he).mono ?_
  rintro e w1 ⟨rfl, rfl⟩
  cases c₀
  simp_all [bodyPostS, results, Try.results29]

set_option maxRecDepth 100000 in
set_option maxHeartbeats 400000 in
theorem commit1_none (cb eb : Nat) (n : Int) (hn : 1 ≤ n ∧ n ≤ 9) (w : World) (hc : w.cell? ⟨cb, 0, none⟩ = some (.slice none 0 0)) (he : w.cell? ⟨eb, 0, none⟩ = some (.int .i64 n)) :
    CallsD Try.prog 29 #[.pointer (some ⟨cb, 0, none⟩), .pointer (some ⟨eb, 0, none⟩)] .returning w fun e u' w' => e = .returned (.tuple #[]) ∧ u' = .returning ∧ Keeps (fun _ => False) w w' := by
  refine callsD_of_wpS Try.func29 rfl fun c₀ cs hu => ?_
  apply wpS_region
  simp [wpOpsS, go_sem, recoverD, hu, Try.ntmps29]
  refine (settle_none cb eb n hn w hc he).mono ?_
  rintro e w1 ⟨rfl, hk⟩
  cases c₀
  simp_all [bodyPostS, results, Try.results29]

set_option maxRecDepth 100000 in
set_option maxHeartbeats 400000 in
theorem abort1_ok (cb eb : Nat) (w : World) (he : w.cell? ⟨eb, 0, none⟩ = some (.int .i64 0)) :
    CallsD Try.prog 35 #[.pointer (some ⟨cb, 0, none⟩), .pointer (some ⟨eb, 0, none⟩)] .returning w fun e u' w' => e = .returned (.tuple #[]) ∧ u' = .returning ∧ w' = w := by
  refine callsD_of_wpS Try.func35 rfl fun c₀ cs hu => ?_
  apply wpS_region
  simp [wpOpsS, go_sem, recoverD, hu, Try.ntmps35]
  refine (settle_ok cb eb w he).mono ?_
  rintro e w1 ⟨rfl, rfl⟩
  cases c₀
  simp_all [bodyPostS, results, Try.results35]

set_option maxRecDepth 100000 in
set_option maxHeartbeats 400000 in
theorem abort1_none (cb eb : Nat) (n : Int) (hn : 1 ≤ n ∧ n ≤ 9) (w : World) (hc : w.cell? ⟨cb, 0, none⟩ = some (.slice none 0 0)) (he : w.cell? ⟨eb, 0, none⟩ = some (.int .i64 n)) :
    CallsD Try.prog 35 #[.pointer (some ⟨cb, 0, none⟩), .pointer (some ⟨eb, 0, none⟩)] .returning w fun e u' w' => e = .returned (.tuple #[]) ∧ u' = .returning ∧ Keeps (fun _ => False) w w' := by
  refine callsD_of_wpS Try.func35 rfl fun c₀ cs hu => ?_
  apply wpS_region
  simp [wpOpsS, go_sem, recoverD, hu, Try.ntmps35]
  refine (settle_none cb eb n hn w hc he).mono ?_
  rintro e w1 ⟨rfl, hk⟩
  cases c₀
  simp_all [bodyPostS, results, Try.results35]

set_option maxRecDepth 100000 in
set_option maxHeartbeats 400000 in
theorem sweep1_ok (cb eb : Nat) (w : World) (he : w.cell? ⟨eb, 0, none⟩ = some (.int .i64 0)) :
    CallsD Try.prog 39 #[.pointer (some ⟨cb, 0, none⟩), .pointer (some ⟨eb, 0, none⟩)] .returning w fun e u' w' => e = .returned (.tuple #[]) ∧ u' = .returning ∧ w' = w := by
  refine callsD_of_wpS Try.func39 rfl fun c₀ cs hu => ?_
  apply wpS_region
  simp [wpOpsS, go_sem, recoverD, hu, Try.ntmps39]
  refine (settle_ok cb eb w he).mono ?_
  rintro e w1 ⟨rfl, rfl⟩
  cases c₀
  simp_all [bodyPostS, results, Try.results39]

set_option maxRecDepth 100000 in
set_option maxHeartbeats 400000 in
theorem sweep1_none (cb eb : Nat) (n : Int) (hn : 1 ≤ n ∧ n ≤ 9) (w : World) (hc : w.cell? ⟨cb, 0, none⟩ = some (.slice none 0 0)) (he : w.cell? ⟨eb, 0, none⟩ = some (.int .i64 n)) :
    CallsD Try.prog 39 #[.pointer (some ⟨cb, 0, none⟩), .pointer (some ⟨eb, 0, none⟩)] .returning w fun e u' w' => e = .returned (.tuple #[]) ∧ u' = .returning ∧ Keeps (fun _ => False) w w' := by
  refine callsD_of_wpS Try.func39 rfl fun c₀ cs hu => ?_
  apply wpS_region
  simp [wpOpsS, go_sem, recoverD, hu, Try.ntmps39]
  refine (settle_none cb eb n hn w hc he).mono ?_
  rintro e w1 ⟨rfl, hk⟩
  cases c₀
  simp_all [bodyPostS, results, Try.results39]

end Go.Proofs.Ytfcocbcihhdbkaa
