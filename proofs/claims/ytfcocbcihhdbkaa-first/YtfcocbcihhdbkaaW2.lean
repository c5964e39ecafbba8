/- putBack, enter, remove: a map is written or a key taken out of it, and the step that takes that back is noted. -/
import Derived.Test.YtfcocbcihhdbkaaW1
namespace Go.Proofs.Ytfcocbcihhdbkaa
open Go.RowKit

theorem Try.zeroWork (w : World) : (zeroValue 73).run Try.prog w = .ok (.pointer none) w := by kernel_rfl
theorem Try.zeroVersion (w : World) : (zeroValue 79).run Try.prog w = .ok (.agg #[.int .i64 0, .string ByteArray.empty, .bool false]) w := by kernel_rfl

set_option maxRecDepth 100000 in
set_option maxHeartbeats 400000 in
theorem putBack_work (b : Nat) (k : Int) (l : List (Int × Value)) (q : Option Addr) (w : World) (h : MapAt (Value.int .i64) w b l) (hv : (look l k).getD (.pointer none) = .pointer q) :
    Calls Try.prog 46 #[.map (some b), .int .i64 k] w fun e w' => (∃ cap, e = .returned (.func (.func 66) #[] cap)) ∧ Keeps (fun _ => False) w w' := by
  have hmf : ∀ (fn : Fn) (first cap : Array Value) (w : World), (Instr.makeFunc fn first cap).run Try.prog w = .ok (.func fn first cap) w := fun _ _ _ _ => rfl
  have HV : Hid ((look l k).getD (.pointer none) = .pointer q) := hv
  clear hv
  go_enter Try.func46, Try.ntmps46
  go_wp2_with (at_lookup; go_must (refine wpList_lookup_ok_at _ rfl _ _ 59 rfl 3 73 intKeyOk Try.underlying59 Try.underlying3 _ (Try.zeroWork _) b rfl k rfl l ((h.kept (Keeps.alloc (fun _ => False) _ _) (fun h => h)).kept (Keeps.alloc (fun _ => False) _ _) (fun h => h)) ?_; rw [HV.out]))
  go_ret
  exact ⟨⟨_, rfl⟩, ((((Keeps.refl _ w).al _).al _).al _).al _⟩

set_option maxRecDepth 100000 in
set_option maxHeartbeats 400000 in
theorem putBack_version (b : Nat) (k : ByteArray) (l : List (ByteArray × Value)) (q1 : Int) (q2 : ByteArray) (q3 : Bool) (w : World) (h : MapAt Value.string w b l) (hv : (look l k).getD (.agg #[.int .i64 0, .string ByteArray.empty, .bool false]) = .agg #[.int .i64 q1, .string q2, .bool q3]) :
    Calls Try.prog 68 #[.map (some b), .string k] w fun e w' => (∃ cap, e = .returned (.func (.func 78) #[] cap)) ∧ Keeps (fun _ => False) w w' := by
  have hmf : ∀ (fn : Fn) (first cap : Array Value) (w : World), (Instr.makeFunc fn first cap).run Try.prog w = .ok (.func fn first cap) w := fun _ _ _ _ => rfl
  have HV : Hid ((look l k).getD (.agg #[.int .i64 0, .string ByteArray.empty, .bool false]) = .agg #[.int .i64 q1, .string q2, .bool q3]) := hv
  clear hv
  go_enter Try.func68, Try.ntmps68
  go_wp2_with (at_lookup; go_must (refine wpList_lookup_ok_at _ rfl _ _ 74 rfl 9 79 strKeyOk Try.underlying74 Try.underlying9 _ (Try.zeroVersion _) b rfl k rfl l ((h.kept (Keeps.alloc (fun _ => False) _ _) (fun h => h)).kept (Keeps.alloc (fun _ => False) _ _) (fun h => h)) ?_; rw [HV.out]))
  go_ret
  exact ⟨⟨_, rfl⟩, ((((Keeps.refl _ w).al _).al _).al _).al _⟩

theorem enter_box {w w1 w2 : World} {cb : Nat} {fs : List Value} {C : List Nat} {v1 v2 v3 : Value} {t : TypeId} (h : Chg w cb fs C) (hk1 : Keeps (fun _ => False) (w.alloc (.cells #[v1, v2, v3] t)) w1) (hk2 : Keeps (· ∈ C) w1 w2) :
    w2.cell? ⟨w.heap.size, 0, none⟩ = some v1 ∧ w2.cell? ⟨w.heap.size, 1, none⟩ = some v2 ∧ w2.cell? ⟨w.heap.size, 2, none⟩ = some v3 := by
  have hn : w.heap.size ∉ C := fun h' => by have := h.lt _ h'; simp at this
  have hc : ∀ j, j < 3 → (w.alloc (.cells #[v1, v2, v3] t)).cell? ⟨w.heap.size, j, none⟩ = #[v1, v2, v3][j]? := fun j _ => World.cell?_alloc_at _ _ _ _ rfl
  exact ⟨hk2.cell (p := ⟨w.heap.size, 0, none⟩) (hk1.cell (p := ⟨w.heap.size, 0, none⟩) (hc 0 (by omega)) (fun h => h)) hn, hk2.cell (p := ⟨w.heap.size, 1, none⟩) (hk1.cell (p := ⟨w.heap.size, 1, none⟩) (hc 1 (by omega)) (fun h => h)) hn,
    hk2.cell (p := ⟨w.heap.size, 2, none⟩) (hk1.cell (p := ⟨w.heap.size, 2, none⟩) (hc 2 (by omega)) (fun h => h)) hn⟩

set_option maxRecDepth 100000 in
set_option maxHeartbeats 400000 in
/-- 'm[key] = value' in the map of the open works, noted -/
theorem enter_work (cb : Nat) (fs : List Value) (C : List Nat) (b : Nat) (k : Int) (l : List (Int × Value)) (q v : Option Addr) (w : World) (hC : Chg w cb fs C) (h : MapAt (Value.int .i64) w b l) (hv : (look l k).getD (.pointer none) = .pointer q) (hb : b ∉ C) (hl : fs.length < 1000000000000) :
    Calls Try.prog 25 #[.pointer (some ⟨cb, 0, none⟩), .map (some b), .int .i64 k, .pointer v] w fun e w' => e = .returned (.tuple #[]) ∧
      ∃ fs' C', fs'.length = fs.length + 1 ∧ Chg w' cb fs' C' ∧ Keeps (fun k => k ∈ C ∨ k = b) w w' ∧ (∀ k ∈ C', k ∈ C ∨ w.heap.size ≤ k) ∧ MapAt (Value.int .i64) w' b (put l k (.pointer v)) := by
  have hlt := h.lt
  have HL : Hid (fs.length < 1000000000000) := hl
  have HP : Hid (b ∉ C) := hb
  have HV : Hid ((look l k).getD (.pointer none) = .pointer q) := hv
  clear hl hb hv
  go_enter Try.func25, Try.ntmps25
  go_wp2_with (first
    | (go_at_call 46; go_must (refine (putBack_work b k l q _ h HV.out).mono ?_; rintro e w1 ⟨⟨cap, rfl⟩, hk1⟩))
    | (go_at_call 42; go_must (refine (undoBy_any cb fs C _ _ _ (hC.kept hk1 (fun _ _ h => h)) (by have := HL.out; omega)).mono ?_; rintro e w2 ⟨rfl, C1, hC1, hk2, hC1'⟩))
    | (at_mapUpdate; go_must (refine wpList_mapUpdate_at _ rfl _ _ _ 59 rfl 3 73 intKeyOk Try.underlying59 Try.underlying3 b rfl k rfl _ rfl l ((h.kept hk1 (fun h => h)).kept hk2 HP.out) ?_; intro w3 hm3 hk3 hz3)))
  go_end0
  have hkk : Keeps (fun k => k ∈ C ∨ k = b) w w3 := ((hk1.mono (T := fun k => k ∈ C ∨ k = b) (fun _ _ h => h.elim)).tr hk2 (fun _ h => .inl h)).tr hk3 (fun _ h => .inr h)
  refine ⟨rfl, _, ?_, C1, hC1.kept hk3 (fun k hk e => ?_), hkk, fun k hk => ?_, hm3⟩
  · simp
  · have e' : k = b := e
    subst e'
    rcases hC1' k hk with h1 | h1
    · exact HP.out h1
    · have := hk1.size; omega
  · rcases hC1' k hk with h1 | h1
    · exact .inl h1
    · have := hk1.size; right; omega

set_option maxRecDepth 100000 in
set_option maxHeartbeats 400000 in
/-- 'm[key] = value' in the map of what a work has written, noted -/
theorem enter_version (cb : Nat) (fs : List Value) (C : List Nat) (b : Nat) (k : ByteArray) (l : List (ByteArray × Value)) (q1 v1 : Int) (q2 v2 : ByteArray) (q3 v3 : Bool) (w : World) (hC : Chg w cb fs C) (h : MapAt Value.string w b l) (hv : (look l k).getD (.agg #[.int .i64 0, .string ByteArray.empty, .bool false]) = .agg #[.int .i64 q1, .string q2, .bool q3]) (hb : b ∉ C) (hl : fs.length < 1000000000000) :
    Calls Try.prog 50 #[.pointer (some ⟨cb, 0, none⟩), .map (some b), .string k, .agg #[.int .i64 v1, .string v2, .bool v3]] w fun e w' => e = .returned (.tuple #[]) ∧
      ∃ fs' C', fs'.length = fs.length + 1 ∧ Chg w' cb fs' C' ∧ Keeps (fun k => k ∈ C ∨ k = b) w w' ∧ (∀ k ∈ C', k ∈ C ∨ w.heap.size ≤ k) ∧ MapAt Value.string w' b (put l k (.agg #[.int .i64 v1, .string v2, .bool v3])) := by
  have hlt := h.lt
  have HL : Hid (fs.length < 1000000000000) := hl
  have HP : Hid (b ∉ C) := hb
  have HV : Hid ((look l k).getD (.agg #[.int .i64 0, .string ByteArray.empty, .bool false]) = .agg #[.int .i64 q1, .string q2, .bool q3]) := hv
  clear hl hb hv
  go_enter Try.func50, Try.ntmps50
  go_wp2_with (first
    | (go_at_call 68; go_must (refine (putBack_version b k l q1 q2 q3 _ (h.kept (Keeps.alloc (fun _ => False) _ _) (fun h => h)) HV.out).mono ?_; rintro e w1 ⟨⟨cap, rfl⟩, hk1⟩))
    | (go_at_call 42; go_must (refine (undoBy_any cb fs C _ _ _ (hC.kept ((Keeps.alloc (fun _ => False) _ _).tr hk1 (fun _ h => h)) (fun _ _ h => h)) (by have := HL.out; omega)).mono ?_; rintro e w2 ⟨rfl, C1, hC1, hk2, hC1'⟩; obtain ⟨hx0, hx1, hx2⟩ := enter_box hC hk1 hk2))
    | (at_mapUpdate; go_must (refine wpList_mapUpdate_at _ rfl _ _ _ 74 rfl 9 79 strKeyOk Try.underlying74 Try.underlying9 b rfl k rfl _ rfl l ((h.kept ((Keeps.alloc (fun _ => False) _ _).tr hk1 (fun _ h => h)) (fun h => h)).kept hk2 HP.out) ?_; intro w3 hm3 hk3 hz3)))
  go_end0
  have hkk : Keeps (fun k => k ∈ C ∨ k = b) w w3 := ((((Keeps.alloc (fun _ => False) _ _).tr hk1 (fun _ h => h)).mono (T := fun k => k ∈ C ∨ k = b) (fun _ _ h => h.elim)).tr hk2 (fun _ h => .inl h)).tr hk3 (fun _ h => .inr h)
  refine ⟨rfl, _, ?_, C1, hC1.kept hk3 (fun k hk e => ?_), hkk, fun k hk => ?_, hm3⟩
  · simp
  · have e' : k = b := e
    subst e'
    rcases hC1' k hk with h1 | h1
    · exact HP.out h1
    · have := hk1.size; simp at this; omega
  · rcases hC1' k hk with h1 | h1
    · exact .inl h1
    · have := hk1.size; simp at this; right; omega

set_option maxRecDepth 100000 in
set_option maxHeartbeats 400000 in
/-- 'delete(m, key)' in the map of the open works, noted -/
theorem remove_work (cb : Nat) (fs : List Value) (C : List Nat) (b : Nat) (k : Int) (l : List (Int × Value)) (q : Option Addr) (w : World) (hC : Chg w cb fs C) (h : MapAt (Value.int .i64) w b l) (hv : (look l k).getD (.pointer none) = .pointer q) (hb : b ∉ C) (hl : fs.length < 1000000000000) :
    Calls Try.prog 31 #[.pointer (some ⟨cb, 0, none⟩), .map (some b), .int .i64 k] w fun e w' => e = .returned (.tuple #[]) ∧
      ∃ fs' C', fs'.length = fs.length + 1 ∧ Chg w' cb fs' C' ∧ Keeps (fun k => k ∈ C ∨ k = b) w w' ∧ (∀ k ∈ C', k ∈ C ∨ w.heap.size ≤ k) ∧ MapAt (Value.int .i64) w' b (del l k) := by
  have hlt := h.lt
  have HL : Hid (fs.length < 1000000000000) := hl
  have HP : Hid (b ∉ C) := hb
  have HV : Hid ((look l k).getD (.pointer none) = .pointer q) := hv
  clear hl hb hv
  go_enter Try.func31, Try.ntmps31
  go_wp2_with (first
    | (go_at_call 46; go_must (refine (putBack_work b k l q _ h HV.out).mono ?_; rintro e w1 ⟨⟨cap, rfl⟩, hk1⟩))
    | (go_at_call 42; go_must (refine (undoBy_any cb fs C _ _ _ (hC.kept hk1 (fun _ _ h => h)) (by have := HL.out; omega)).mono ?_; rintro e w2 ⟨rfl, C1, hC1, hk2, hC1'⟩))
    | (at_delete; go_must (refine wpList_delete_at _ rfl _ _ 59 3 rfl 73 intKeyOk Try.underlying59 Try.underlying3 b rfl k rfl l ((h.kept hk1 (fun h => h)).kept hk2 HP.out) ?_; intro w3 hm3 hk3 hz3)))
  go_end0
  have hkk : Keeps (fun k => k ∈ C ∨ k = b) w w3 := ((hk1.mono (T := fun k => k ∈ C ∨ k = b) (fun _ _ h => h.elim)).tr hk2 (fun _ h => .inl h)).tr hk3 (fun _ h => .inr h)
  refine ⟨rfl, _, ?_, C1, hC1.kept hk3 (fun k hk e => ?_), hkk, fun k hk => ?_, hm3⟩
  · simp
  · have e' : k = b := e
    subst e'
    rcases hC1' k hk with h1 | h1
    · exact HP.out h1
    · have := hk1.size; omega
  · rcases hC1' k hk with h1 | h1
    · exact .inl h1
    · have := hk1.size; right; omega

end Go.Proofs.Ytfcocbcihhdbkaa
