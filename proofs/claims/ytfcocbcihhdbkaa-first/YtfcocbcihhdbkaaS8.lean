/- Put and Delete. -/
import Derived.Test.YtfcocbcihhdbkaaS7
import Derived.Test.YtfcocbcihhdbkaaSh
namespace Go.Proofs.Ytfcocbcihhdbkaa
open Go.RowKit

set_option maxRecDepth 100000 in
set_option maxHeartbeats 400000 in
theorem clone_any (s : ByteArray) (w : World) (hlim : s.size ≤ 281474976710656) :
    Calls Try.prog 49 #[.string s] w fun e w' => e = .returned (.string s) ∧ Keeps (fun _ => False) w w' := by
  go_enter Try.func49, Try.ntmps49
  go_wp2_with (go_at_call 67; go_must (refine (slClone_any s _ hlim).mono ?_; rintro e w1 ⟨rfl, hk1⟩))
  go_ret
  exact ⟨rfl, Keeps.below hk1⟩

theorem chg_new3 (w : World) (o1 o2 : Obj) : Chg (((w.alloc o1).alloc o2).alloc (.cells #[.slice none 0 0] 56)) (w.heap.size + 1 + 1) [] [w.heap.size + 1 + 1] := by
  have := chg_new (w.alloc o1) o2
  simpa using this

set_option maxRecDepth 100000 in
set_option maxHeartbeats 400000 in
theorem write_none (R : Rep) (n : Int) (key val : ByteArray) (gone : Bool) (w : World) (h : StoreAt w R) (hn : look R.works n = none) :
    Calls Try.prog 26 #[.pointer (some ⟨R.sb, 0, none⟩), .int .i64 n, .string key, .agg #[.int .i64 0, .string val, .bool gone]] w fun e w' => e = .returned (.int .i64 1) ∧ Keeps (fun _ => False) w w' := by
  have hmf : ∀ (fn : Fn) (first cap : Array Value) (w : World), (Instr.makeFunc fn first cap).run Try.prog w = .ok (.func fn first cap) w := fun _ _ _ _ => rfl
  have hf := find_any R n (((w.alloc (.cells #[.int .i64 0, .string val, .bool gone] 79)).alloc (.cells #[.int .i64 0] 28)).alloc (.cells #[.slice none 0 0] 56)) (h.kept ((((Keeps.refl (fun _ => False) w).al _).al _).al _) (fun _ _ h => h))
  rw [hn] at hf
  simp only [Option.map_none, Option.getD_none] at hf
  clear hn h
  generalize R.sb = sb at *
  go_enter_defers Try.func26, Try.ntmps26
  go_wp2_with (go_at_call 30; go_must (refine hf.mono ?_; rintro e w1 ⟨rfl, rfl⟩))
  refine leaves_cons (f := 47) (args := #[.pointer (some ⟨w.heap.size + 1 + 1, 0, none⟩), .pointer (some ⟨w.heap.size + 1, 0, none⟩)]) (by simp) (by simp [go_sem]) ?_
  refine (write1_none (w.heap.size + 1 + 1) (w.heap.size + 1) 1 (by omega) _ ?_ ?_).mono ?_
  · simp [go_sem]
  · simp [go_sem]
  rintro e u' w'' ⟨rfl, rfl, hk⟩
  have hb : w''.cell? ⟨w.heap.size + 1, 0, none⟩ = some (.int .i64 1) := hk.cell (p := ⟨w.heap.size + 1, 0, none⟩) (by simp [go_sem]) (fun h => h)
  simp [Leaves, settle, results, Try.results26, go_sem, hb]
  exact ((((Keeps.refl _ w).al _).al _).al _).tr hk (fun _ h => h)

set_option maxRecDepth 100000 in
set_option maxHeartbeats 400000 in
theorem write_text (R : Rep) (n : Int) (x : WkR) (key val : ByteArray) (gone : Bool) (w : World) (h : StoreAt w R) (hn : look R.works n = some x) (hk : key.size ≤ maxLen) (hv : val.size ≤ maxLen) (hb : keyB key = false ∨ valB val = false) :
    Calls Try.prog 26 #[.pointer (some ⟨R.sb, 0, none⟩), .int .i64 n, .string key, .agg #[.int .i64 0, .string val, .bool gone]] w fun e w' => e = .returned (.int .i64 2) ∧ Keeps (fun _ => False) w w' := by
  have hmf : ∀ (fn : Fn) (first cap : Array Value) (w : World), (Instr.makeFunc fn first cap).run Try.prog w = .ok (.func fn first cap) w := fun _ _ _ _ => rfl
  have hnot : ∀ (x : Bool) (w : World), (Op.unary .not (.bool x)).run Try.prog w = .ok (.bool (!x)) w := fun _ _ => rfl
  have hf := find_any R n (((w.alloc (.cells #[.int .i64 0, .string val, .bool gone] 79)).alloc (.cells #[.int .i64 0] 28)).alloc (.cells #[.slice none 0 0] 56)) (h.kept ((((Keeps.refl (fun _ => False) w).al _).al _).al _) (fun _ _ h => h))
  rw [hn] at hf
  simp only [Option.map_some, Option.getD_some, workPtr] at hf
  have hik := fun W => isKey_any key W hk
  have hiv := fun W => isValue_any val W hv
  clear hn h hk hv
  generalize R.sb = sb at *
  cases hkb : keyB key with
  | false =>
    simp only [hkb] at hik
    clear hkb hb hiv
    have HIK : Hid (∀ W, Calls Try.prog 33 #[.string key] W fun e w' => e = .returned (.bool false) ∧ w' = W) := hik
    clear hik
    go_enter_defers Try.func26, Try.ntmps26
    go_wp2_with (first
      | (go_at_call 30; go_must (refine hf.mono ?_; rintro e w1 ⟨rfl, rfl⟩))
      | (go_at_call 33; go_must (refine (HIK.out _).mono ?_; rintro e w1 ⟨rfl, rfl⟩)))
    refine leaves_cons (f := 47) (args := #[.pointer (some ⟨w.heap.size + 1 + 1, 0, none⟩), .pointer (some ⟨w.heap.size + 1, 0, none⟩)]) (by simp) (by simp [go_sem]) ?_
    refine (write1_none (w.heap.size + 1 + 1) (w.heap.size + 1) 2 (by omega) _ ?_ ?_).mono ?_
    · simp [go_sem]
    · simp [go_sem]
    rintro e u' w'' ⟨rfl, rfl, hk⟩
    have hb : w''.cell? ⟨w.heap.size + 1, 0, none⟩ = some (.int .i64 2) := hk.cell (p := ⟨w.heap.size + 1, 0, none⟩) (by simp [go_sem]) (fun h => h)
    simp [Leaves, settle, results, Try.results26, go_sem, hb]
    exact ((((Keeps.refl _ w).al _).al _).al _).tr hk (fun _ h => h)
  | true =>
    have hvb : valB val = false := by
      rcases hb with h | h
      · rw [hkb] at h; cases h
      · exact h
    simp only [hkb] at hik
    simp only [hvb] at hiv
    clear hkb hb hvb
    have HIK : Hid (∀ W, Calls Try.prog 33 #[.string key] W fun e w' => e = .returned (.bool true) ∧ w' = W) := hik
    have HIV : Hid (∀ W, Calls Try.prog 48 #[.string val] W fun e w' => e = .returned (.bool false) ∧ w' = W) := hiv
    clear hik hiv
    go_enter_defers Try.func26, Try.ntmps26
    go_wp2_with (first
      | (go_at_call 30; go_must (refine hf.mono ?_; rintro e w1 ⟨rfl, rfl⟩))
      | (go_at_call 33; go_must (refine (HIK.out _).mono ?_; rintro e w1 ⟨rfl, rfl⟩))
      | (go_at_call 48; go_must (refine (HIV.out _).mono ?_; rintro e w1 ⟨rfl, rfl⟩)))
    refine leaves_cons (f := 47) (args := #[.pointer (some ⟨w.heap.size + 1 + 1, 0, none⟩), .pointer (some ⟨w.heap.size + 1, 0, none⟩)]) (by simp) (by simp [go_sem]) ?_
    refine (write1_none (w.heap.size + 1 + 1) (w.heap.size + 1) 2 (by omega) _ ?_ ?_).mono ?_
    · simp [go_sem]
    · simp [go_sem]
    rintro e u' w'' ⟨rfl, rfl, hk⟩
    have hb : w''.cell? ⟨w.heap.size + 1, 0, none⟩ = some (.int .i64 2) := hk.cell (p := ⟨w.heap.size + 1, 0, none⟩) (by simp [go_sem]) (fun h => h)
    simp [Leaves, settle, results, Try.results26, go_sem, hb]
    exact ((((Keeps.refl _ w).al _).al _).al _).tr hk (fun _ h => h)

end Go.Proofs.Ytfcocbcihhdbkaa
