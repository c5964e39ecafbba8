import Derived.Test.YtpagenipflmlfaaGreatDoorM01
import Derived.Defers
import Derived.Recover
import Derived.RangeFuncNested
import Derived.RangeFuncBound
import Derived.RangeFuncCalls
import Derived.RangeFuncLeaves
import Derived.Shelf.Abstract
import Derived.Shelf.RegionOpen
import Derived.OwnWalkIn
import Derived.TacticsInMore
import Derived.LoopNIn
import Derived.LoopIn

/- putBack, enter, remove: a map is written or a key taken out of it, and the step that takes that back is noted. -/

namespace Go.Proofs.YtpagenipflmlfaaGreatDoor

open Go.RowKit

theorem Tryz.zeroWork (w : World) : (zeroValue 101).run Tryz.prog w = .ok (.pointer none) w := by kernel_rfl

theorem Tryz.zeroVersion (w : World) : (zeroValue 107).run Tryz.prog w = .ok (.agg #[.int .i64 0, .string ByteArray.empty, .bool false]) w := by kernel_rfl

set_option maxRecDepth 100000 in
set_option maxHeartbeats 400000 in
theorem putBack_work (b : Nat) (k : Int) (l : List (Int × Value)) (q : Option Addr) (w : World) (h : MapAt (Value.int .i64) w b l) (hv : (look l k).getD (.pointer none) = .pointer q) :
    Calls Tryz.prog 80 #[.map (some b), .int .i64 k] w fun e w' => (∃ cap, e = .returned (.func (.func 121) #[] cap)) ∧ Keeps (fun _ => False) w w' := by
  have hmf : ∀ (fn : Fn) (first cap : Array Value) (w : World), (Instr.makeFunc fn first cap).run Tryz.prog w = .ok (.func fn first cap) w := fun _ _ _ _ => rfl
  have HV : Hid ((look l k).getD (.pointer none) = .pointer q) := hv
  clear hv
  go_enter Tryz.func80, Tryz.ntmps80
  go_wp2_with (at_lookup; go_must (refine wpList_lookup_ok_at _ rfl _ _ 58 rfl 3 101 intKeyOk Tryz.underlying58 Tryz.underlying3 _ (Tryz.zeroWork _) b rfl k rfl l ((h.kept (Keeps.alloc (fun _ => False) _ _) (fun h => h)).kept (Keeps.alloc (fun _ => False) _ _) (fun h => h)) ?_; rw [HV.out]))
  go_ret
  exact ⟨⟨_, rfl⟩, ((((Keeps.refl _ w).al _).al _).al _).al _⟩

set_option maxRecDepth 100000 in
set_option maxHeartbeats 400000 in
theorem putBack_version (b : Nat) (k : ByteArray) (l : List (ByteArray × Value)) (q1 : Int) (q2 : ByteArray) (q3 : Bool) (w : World) (h : MapAt Value.string w b l) (hv : (look l k).getD (.agg #[.int .i64 0, .string ByteArray.empty, .bool false]) = .agg #[.int .i64 q1, .string q2, .bool q3]) :
    Calls Tryz.prog 123 #[.map (some b), .string k] w fun e w' => (∃ cap, e = .returned (.func (.func 150) #[] cap)) ∧ Keeps (fun _ => False) w w' := by
  have hmf : ∀ (fn : Fn) (first cap : Array Value) (w : World), (Instr.makeFunc fn first cap).run Tryz.prog w = .ok (.func fn first cap) w := fun _ _ _ _ => rfl
  have HV : Hid ((look l k).getD (.agg #[.int .i64 0, .string ByteArray.empty, .bool false]) = .agg #[.int .i64 q1, .string q2, .bool q3]) := hv
  clear hv
  go_enter Tryz.func123, Tryz.ntmps123
  go_wp2_with (at_lookup; go_must (refine wpList_lookup_ok_at _ rfl _ _ 102 rfl 9 107 strKeyOk Tryz.underlying102 Tryz.underlying9 _ (Tryz.zeroVersion _) b rfl k rfl l ((h.kept (Keeps.alloc (fun _ => False) _ _) (fun h => h)).kept (Keeps.alloc (fun _ => False) _ _) (fun h => h)) ?_; rw [HV.out]))
  go_ret
  exact ⟨⟨_, rfl⟩, ((((Keeps.refl _ w).al _).al _).al _).al _⟩

theorem enter_box {w w1 w2 : World} {cb : Nat} {fs : List Value} {C : List Nat} {v1 v2 v3 : Value} {t : TypeId} (h : Chg w cb fs C) (hk1 : Keeps (fun _ => False) (w.alloc (.cells #[v1, v2, v3] t)) w1) (hk2 : Keeps (· ∈ C) w1 w2) :
    w2.cell? ⟨w.heap.size, 0, none⟩ = some v1 ∧ w2.cell? ⟨w.heap.size, 1, none⟩ = some v2 ∧ w2.cell? ⟨w.heap.size, 2, none⟩ = some v3 := by
  have hn : w.heap.size ∉ C := fun h' => by have := h.lt _ h'; simp at this
  have hc : ∀ j, j < 3 → (w.alloc (.cells #[v1, v2, v3] t)).cell? ⟨w.heap.size, j, none⟩ = #[v1, v2, v3][j]? := fun j _ => World.cell?_alloc_at _ _ _ _ rfl
  exact ⟨hk2.cell (p := ⟨w.heap.size, 0, none⟩) (hk1.cell (p := ⟨w.heap.size, 0, none⟩) (hc 0 (by omega)) (fun h => h)) hn, hk2.cell (p := ⟨w.heap.size, 1, none⟩) (hk1.cell (p := ⟨w.heap.size, 1, none⟩) (hc 1 (by omega)) (fun h => h)) hn,
    hk2.cell (p := ⟨w.heap.size, 2, none⟩) (hk1.cell (p := ⟨w.heap.size, 2, none⟩) (hc 2 (by omega)) (fun h => h)) hn⟩

set_option maxRecDepth 100000 in
set_option maxHeartbeats 400000 in
/-- 'm[key] = value' in the map of the open works, noted -/
theorem enter_work (cb : Nat) (fs : List Value) (C : List Nat) (b : Nat) (k : Int) (l : List (Int × Value)) (q v : Option Addr) (w : World) (hC : Chg w cb fs C) (h : MapAt (Value.int .i64) w b l) (hv : (look l k).getD (.pointer none) = .pointer q) (hb : b ∉ C) (hl : fs.length < 1000000000000) :
    Calls Tryz.prog 44 #[.pointer (some ⟨cb, 0, none⟩), .map (some b), .int .i64 k, .pointer v] w fun e w' => e = .returned (.tuple #[]) ∧
      ∃ fs' C', fs'.length = fs.length + 1 ∧ Chg w' cb fs' C' ∧ Keeps (fun k => k ∈ C ∨ k = b) w w' ∧ (∀ k ∈ C', k ∈ C ∨ w.heap.size ≤ k) ∧ MapAt (Value.int .i64) w' b (put l k (.pointer v)) := by
  have hlt := h.lt
  have HL : Hid (fs.length < 1000000000000) := hl
  have HP : Hid (b ∉ C) := hb
  have HV : Hid ((look l k).getD (.pointer none) = .pointer q) := hv
  clear hl hb hv
  go_enter Tryz.func44, Tryz.ntmps44
  go_wp2_with (first
    | (go_at_call 80; go_must (refine (putBack_work b k l q _ h HV.out).mono ?_; rintro e w1 ⟨⟨cap, rfl⟩, hk1⟩))
    | (go_at_call 53; go_must (refine (undoBy_any cb fs C _ _ _ (hC.kept hk1 (fun _ _ h => h)) (by have := HL.out; omega)).mono ?_; rintro e w2 ⟨rfl, C1, hC1, hk2, hC1'⟩))
    | (at_mapUpdate; go_must (refine wpList_mapUpdate_at _ rfl _ _ _ 58 rfl 3 101 intKeyOk Tryz.underlying58 Tryz.underlying3 b rfl k rfl _ rfl l ((h.kept hk1 (fun h => h)).kept hk2 HP.out) ?_; intro w3 hm3 hk3 hz3)))
  go_end0
  have hkk : Keeps (fun k => k ∈ C ∨ k = b) w w3 := ((hk1.mono (T := fun k => k ∈ C ∨ k = b) (fun _ _ h => h.elim)).tr hk2 (fun _ h => .inl h)).tr hk3 (fun _ h => .inr h)
  refine ⟨rfl, _, ?_, C1, hC1.kept hk3 (fun k hk e => ?_), hkk, fun k hk => ?_, hm3⟩
  · simp
  · have e' : k = b := e
    subst e'
    rcases hC1' k hk with h1 | h1
    · exact HP.out h1
    · have := hk1.size; omega
  · rcases hC1' k hk with h1 | h1
    · exact .inl h1
    · have := hk1.size; right; omega

set_option maxRecDepth 100000 in
set_option maxHeartbeats 400000 in
/-- 'm[key] = value' in the map of what a work has written, noted -/
theorem enter_version (cb : Nat) (fs : List Value) (C : List Nat) (b : Nat) (k : ByteArray) (l : List (ByteArray × Value)) (q1 v1 : Int) (q2 v2 : ByteArray) (q3 v3 : Bool) (w : World) (hC : Chg w cb fs C) (h : MapAt Value.string w b l) (hv : (look l k).getD (.agg #[.int .i64 0, .string ByteArray.empty, .bool false]) = .agg #[.int .i64 q1, .string q2, .bool q3]) (hb : b ∉ C) (hl : fs.length < 1000000000000) :
    Calls Tryz.prog 84 #[.pointer (some ⟨cb, 0, none⟩), .map (some b), .string k, .agg #[.int .i64 v1, .string v2, .bool v3]] w fun e w' => e = .returned (.tuple #[]) ∧
      ∃ fs' C', fs'.length = fs.length + 1 ∧ Chg w' cb fs' C' ∧ Keeps (fun k => k ∈ C ∨ k = b) w w' ∧ (∀ k ∈ C', k ∈ C ∨ w.heap.size ≤ k) ∧ MapAt Value.string w' b (put l k (.agg #[.int .i64 v1, .string v2, .bool v3])) := by
  have hlt := h.lt
  have HL : Hid (fs.length < 1000000000000) := hl
  have HP : Hid (b ∉ C) := hb
  have HV : Hid ((look l k).getD (.agg #[.int .i64 0, .string ByteArray.empty, .bool false]) = .agg #[.int .i64 q1, .string q2, .bool q3]) := hv
  clear hl hb hv
  go_enter Tryz.func84, Tryz.ntmps84
  go_wp2_with (first
    | (go_at_call 123; go_must (refine (putBack_version b k l q1 q2 q3 _ (h.kept (Keeps.alloc (fun _ => False) _ _) (fun h => h)) HV.out).mono ?_; rintro e w1 ⟨⟨cap, rfl⟩, hk1⟩))
    | (go_at_call 53; go_must (refine (undoBy_any cb fs C _ _ _ (hC.kept ((Keeps.alloc (fun _ => False) _ _).tr hk1 (fun _ h => h)) (fun _ _ h => h)) (by have := HL.out; omega)).mono ?_; rintro e w2 ⟨rfl, C1, hC1, hk2, hC1'⟩; obtain ⟨hx0, hx1, hx2⟩ := enter_box hC hk1 hk2))
    | (at_mapUpdate; go_must (refine wpList_mapUpdate_at _ rfl _ _ _ 102 rfl 9 107 strKeyOk Tryz.underlying102 Tryz.underlying9 b rfl k rfl _ rfl l ((h.kept ((Keeps.alloc (fun _ => False) _ _).tr hk1 (fun _ h => h)) (fun h => h)).kept hk2 HP.out) ?_; intro w3 hm3 hk3 hz3)))
  go_end0
  have hkk : Keeps (fun k => k ∈ C ∨ k = b) w w3 := ((((Keeps.alloc (fun _ => False) _ _).tr hk1 (fun _ h => h)).mono (T := fun k => k ∈ C ∨ k = b) (fun _ _ h => h.elim)).tr hk2 (fun _ h => .inl h)).tr hk3 (fun _ h => .inr h)
  refine ⟨rfl, _, ?_, C1, hC1.kept hk3 (fun k hk e => ?_), hkk, fun k hk => ?_, hm3⟩
  · simp
  · have e' : k = b := e
    subst e'
    rcases hC1' k hk with h1 | h1
    · exact HP.out h1
    · have := hk1.size; simp at this; omega
  · rcases hC1' k hk with h1 | h1
    · exact .inl h1
    · have := hk1.size; simp at this; right; omega

set_option maxRecDepth 100000 in
set_option maxHeartbeats 400000 in
/-- 'delete(m, key)' in the map of the open works, noted -/
theorem remove_work (cb : Nat) (fs : List Value) (C : List Nat) (b : Nat) (k : Int) (l : List (Int × Value)) (q : Option Addr) (w : World) (hC : Chg w cb fs C) (h : MapAt (Value.int .i64) w b l) (hv : (look l k).getD (.pointer none) = .pointer q) (hb : b ∉ C) (hl : fs.length < 1000000000000) :
    Calls Tryz.prog 48 #[.pointer (some ⟨cb, 0, none⟩), .map (some b), .int .i64 k] w fun e w' => e = .returned (.tuple #[]) ∧
      ∃ fs' C', fs'.length = fs.length + 1 ∧ Chg w' cb fs' C' ∧ Keeps (fun k => k ∈ C ∨ k = b) w w' ∧ (∀ k ∈ C', k ∈ C ∨ w.heap.size ≤ k) ∧ MapAt (Value.int .i64) w' b (del l k) := by
  have hlt := h.lt
  have HL : Hid (fs.length < 1000000000000) := hl
  have HP : Hid (b ∉ C) := hb
  have HV : Hid ((look l k).getD (.pointer none) = .pointer q) := hv
  clear hl hb hv
  go_enter Tryz.func48, Tryz.ntmps48
  go_wp2_with (first
    | (go_at_call 80; go_must (refine (putBack_work b k l q _ h HV.out).mono ?_; rintro e w1 ⟨⟨cap, rfl⟩, hk1⟩))
    | (go_at_call 53; go_must (refine (undoBy_any cb fs C _ _ _ (hC.kept hk1 (fun _ _ h => h)) (by have := HL.out; omega)).mono ?_; rintro e w2 ⟨rfl, C1, hC1, hk2, hC1'⟩))
    | (at_delete; go_must (refine wpList_delete_at _ rfl _ _ 58 3 rfl 101 intKeyOk Tryz.underlying58 Tryz.underlying3 b rfl k rfl l ((h.kept hk1 (fun h => h)).kept hk2 HP.out) ?_; intro w3 hm3 hk3 hz3)))
  go_end0
  have hkk : Keeps (fun k => k ∈ C ∨ k = b) w w3 := ((hk1.mono (T := fun k => k ∈ C ∨ k = b) (fun _ _ h => h.elim)).tr hk2 (fun _ h => .inl h)).tr hk3 (fun _ h => .inr h)
  refine ⟨rfl, _, ?_, C1, hC1.kept hk3 (fun k hk e => ?_), hkk, fun k hk => ?_, hm3⟩
  · simp
  · have e' : k = b := e
    subst e'
    rcases hC1' k hk with h1 | h1
    · exact HP.out h1
    · have := hk1.size; omega
  · rcases hC1' k hk with h1 | h1
    · exact .inl h1
    · have := hk1.size; right; omega

end Go.Proofs.YtpagenipflmlfaaGreatDoor

/- settle: what the deferred function of a call hands over to. -/

namespace Go.Proofs.YtpagenipflmlfaaGreatDoor

open Go.RowKit Go.Shelf

attribute [local go_sem] Oper.semAt_some

set_option maxRecDepth 100000 in
set_option maxHeartbeats 400000 in
/-- The call answers no error: nothing is taken back. -/
theorem settle_ok (cb eb : Nat) (w : World) (he : w.cell? ⟨eb, 0, none⟩ = some (.int .i64 0)) :
    Calls Tryz.prog 26 #[.pointer (some ⟨cb, 0, none⟩), .nilIface, .pointer (some ⟨eb, 0, none⟩)] w fun e w' => e = .returned (.tuple #[]) ∧ w' = w := by
  go_enter Tryz.func26, Tryz.ntmps26
  go_wp2
  refine bodyPost_ret (results_none rfl _ _ _) rfl ?_
  exact ⟨rfl, rfl⟩

set_option maxRecDepth 100000 in
set_option maxHeartbeats 400000 in
/-- slices.Backward of no step: no round. -/
theorem backward1_nil (F : Fence) (n : Nat) (h1 : F.fn 87) (hro : F.round = none) (l B : Nat) (J : List Empty → World → Prop) (W : World) (hB : W.cell? ⟨B, 0, none⟩ = some (.slice none 0 0)) (h0 : J [] W) :
    CallsIn F n Tryz.prog 87 #[.func (.yield l) #[] #[], .pointer (some ⟨B, 0, none⟩)] W fun e W' => (∃ v, e = .returned v) ∧ J [] W' := by
  refine callsIn_of_wp Tryz.func87 rfl h1 ?_ hro
  simp only [Tryz.ntmps87, List.size_toArray, List.length_cons, List.length_nil, Nat.reduceAdd, Nat.reduceSub, Array.replicate_succ, Array.replicate_zero, List.push_toArray, List.append_toArray, List.nil_append, List.cons_append]
  gi_wp2
  gi_loopw [3] (fun i wr => i = .int .i64 (-1) ∧ J [] wr) (fun _ _ => 0)
  case atStart => exact ⟨rfl, h0⟩
  case round =>
    obtain ⟨rfl, hJs⟩ := hrel
    gi_wp2
    go_end0
    exact ⟨⟨_, rfl⟩, hJs⟩

theorem backward_nil_stops (F : Fence) (n : Nat) (h1 : F.fn 87) (hro : F.round = none) (B : Nat) (w : World) (hB : B < w.heap.size) (hc : w.cell? ⟨B, 0, none⟩ = some (.slice none 0 0)) :
    SeqStopsK F n Tryz.prog 87 #[.pointer (some ⟨B, 0, none⟩)] (fun _ : Empty => #[Value.nilFunc, Value.nilFunc]) (fun _ _ => True) (fun ys => ys = []) (fun _ => False) 0 w := fun l J Jx W hW _ _ _ h0 => by
  have hc' := (hW.cell (p := ⟨B, 0, none⟩) hB).trans hc
  exact (backward1_nil F n h1 hro l B J W hc' h0).mono fun e W' ⟨he, hj⟩ => ⟨he, .inl ⟨_, rfl, hj⟩⟩

set_option maxRecDepth 100000 in
set_option maxHeartbeats 400000 in
/-- slices.Backward(s): the slice is boxed; the function value captures the box. -/
theorem backward_any (a : Option Addr) (len cap : Nat) (w : World) :
    Calls Tryz.prog 52 #[.slice a len cap] w fun e w' => e = .returned (.func (.func 87) #[] #[.pointer (some ⟨w.heap.size, 0, none⟩)]) ∧ w' = w.alloc (.cells #[.slice a len cap] 67) := by
  have hmf : ∀ (fn : Fn) (first cap : Array Value) (w : World), (Instr.makeFunc fn first cap).run Tryz.prog w = .ok (.func fn first cap) w := fun _ _ _ _ => rfl
  go_enter Tryz.func52, Tryz.ntmps52
  go_wp2
  go_ret
  exact ⟨rfl, rfl⟩

set_option maxRecDepth 100000 in
set_option maxHeartbeats 400000 in
/-- It answers an error, and nothing was done. -/
theorem settle_none (cb eb : Nat) (n : Int) (hn : 1 ≤ n ∧ n ≤ 9) (w : World) (hc : w.cell? ⟨cb, 0, none⟩ = some (.slice none 0 0)) (he : w.cell? ⟨eb, 0, none⟩ = some (.int .i64 n)) :
    Calls Tryz.prog 26 #[.pointer (some ⟨cb, 0, none⟩), .nilIface, .pointer (some ⟨eb, 0, none⟩)] w fun e w' => e = .returned (.tuple #[]) ∧ Keeps (fun _ => False) w w' := by
  obtain ⟨h1, h2⟩ := hn
  have hnb : (n == 0) = false := by simp; omega
  have hmf : ∀ (fn : Fn) (first cap : Array Value) (w : World), (Instr.makeFunc fn first cap).run Tryz.prog w = .ok (.func fn first cap) w := fun _ _ _ _ => rfl
  refine (callsIn_wide (n := 8)).1 ?_
  refine callsIn_of_wp_marks Tryz.func26 rfl trivial ?_ rfl
  simp only [Tryz.ntmps26, List.size_toArray, List.length_cons, List.length_nil, Nat.reduceAdd, Nat.reduceSub, Array.replicate_succ, Array.replicate_zero, List.push_toArray, List.append_toArray, List.nil_append, List.cons_append]
  gi_wp2_with (refine ⟨trivial, ?_⟩; gi_at_call 52; go_must (refine (callsIn_wide.2 (backward_any _ _ _ _)).mono ?_; rintro e w1 ⟨rfl, rfl⟩))
  refine wpIn_rangeFunc_ownG (α := Empty) rfl (by omega) (gf := 87) (lb := #[.pointer (some ⟨w.heap.size, 0, none⟩)]) rfl trivial (enters_of Tryz.func87 (by kernel_rfl) rfl)
    (backward_nil_stops Fence.wide 7 trivial rfl w.heap.size (w.alloc (.cells #[.slice none 0 0] 67)) (by simp) (by simp)) (fun _ _ => trivial) (fun _ _ _ _ _ _ _ _ => trivial) (Below.refl _ _) (fun x => x.elim)
    (fun _ W => Below w.heap.size w W) (fun _ _ _ => False) ?own ?ownx ?start (fun x => x.elim) (fun _ x => x.elim) (fun _ _ x => x.elim) ?done (fun _ _ _ _ _ h => h.elim)
  case own => exact ownFrom_below (Nat.le_refl _) (by simp)
  case ownx => exact fun _ _ _ _ _ h _ _ => h
  case start => exact (Below.refl _ _).alloc (Nat.le_refl _) _
  case done =>
    rintro D ys W hD - hB hK
    gi_wp2
    refine ⟨by simp, .inl ⟨_, _, rfl, run_takeDeferred hK, ?_⟩⟩
    refine ⟨_, results_none rfl _ _ _, rfl, ?_⟩
    exact Keeps.below (hB.trans (belowK_b (w := w) (Nat.le_refl _) W D _ _ (by simp at hD; omega) hK rfl rfl))

end Go.Proofs.YtpagenipflmlfaaGreatDoor

/- The deferred functions of the calls. -/

namespace Go.Proofs.YtpagenipflmlfaaGreatDoor

open Go.RowKit

set_option maxRecDepth 100000 in
set_option maxHeartbeats 400000 in
theorem begin1_ok (cb eb : Nat) (w : World) (he : w.cell? ⟨eb, 0, none⟩ = some (.int .i64 0)) :
    CallsD Tryz.prog 41 #[.pointer (some ⟨cb, 0, none⟩), .pointer (some ⟨eb, 0, none⟩)] .returning w fun e u' w' => e = .returned (.tuple #[]) ∧ u' = .returning ∧ w' = w := by
  refine callsD_of_wpS Tryz.func41 rfl fun c₀ cs hu => ?_
  apply wpS_region
  simp [wpOpsS, go_sem, recoverD, hu, Tryz.ntmps41]
  refine (settle_ok cb eb w he).mono ?_
  rintro e w1 ⟨rfl, rfl⟩
  cases c₀
  simp_all [bodyPostS, results, Tryz.results41]

set_option maxRecDepth 100000 in
set_option maxHeartbeats 400000 in
theorem begin1_none (cb eb : Nat) (n : Int) (hn : 1 ≤ n ∧ n ≤ 9) (w : World) (hc : w.cell? ⟨cb, 0, none⟩ = some (.slice none 0 0)) (he : w.cell? ⟨eb, 0, none⟩ = some (.int .i64 n)) :
    CallsD Tryz.prog 41 #[.pointer (some ⟨cb, 0, none⟩), .pointer (some ⟨eb, 0, none⟩)] .returning w fun e u' w' => e = .returned (.tuple #[]) ∧ u' = .returning ∧ Keeps (fun _ => False) w w' := by
  refine callsD_of_wpS Tryz.func41 rfl fun c₀ cs hu => ?_
  apply wpS_region
  simp [wpOpsS, go_sem, recoverD, hu, Tryz.ntmps41]
  refine (settle_none cb eb n hn w hc he).mono ?_
  rintro e w1 ⟨rfl, hk⟩
  cases c₀
  simp_all [bodyPostS, results, Tryz.results41]

set_option maxRecDepth 100000 in
set_option maxHeartbeats 400000 in
theorem write1_ok (cb eb : Nat) (w : World) (he : w.cell? ⟨eb, 0, none⟩ = some (.int .i64 0)) :
    CallsD Tryz.prog 81 #[.pointer (some ⟨cb, 0, none⟩), .pointer (some ⟨eb, 0, none⟩)] .returning w fun e u' w' => e = .returned (.tuple #[]) ∧ u' = .returning ∧ w' = w := by
  refine callsD_of_wpS Tryz.func81 rfl fun c₀ cs hu => ?_
  apply wpS_region
  simp [wpOpsS, go_sem, recoverD, hu, Tryz.ntmps81]
  refine (settle_ok cb eb w he).mono ?_
  rintro e w1 ⟨rfl, rfl⟩
  cases c₀
  simp_all [bodyPostS, results, Tryz.results81]

set_option maxRecDepth 100000 in
set_option maxHeartbeats 400000 in
theorem write1_none (cb eb : Nat) (n : Int) (hn : 1 ≤ n ∧ n ≤ 9) (w : World) (hc : w.cell? ⟨cb, 0, none⟩ = some (.slice none 0 0)) (he : w.cell? ⟨eb, 0, none⟩ = some (.int .i64 n)) :
    CallsD Tryz.prog 81 #[.pointer (some ⟨cb, 0, none⟩), .pointer (some ⟨eb, 0, none⟩)] .returning w fun e u' w' => e = .returned (.tuple #[]) ∧ u' = .returning ∧ Keeps (fun _ => False) w w' := by
  refine callsD_of_wpS Tryz.func81 rfl fun c₀ cs hu => ?_
  apply wpS_region
  simp [wpOpsS, go_sem, recoverD, hu, Tryz.ntmps81]
  refine (settle_none cb eb n hn w hc he).mono ?_
  rintro e w1 ⟨rfl, hk⟩
  cases c₀
  simp_all [bodyPostS, results, Tryz.results81]

set_option maxRecDepth 100000 in
set_option maxHeartbeats 400000 in
theorem commit1_ok (cb eb : Nat) (w : World) (he : w.cell? ⟨eb, 0, none⟩ = some (.int .i64 0)) :
    CallsD Tryz.prog 46 #[.pointer (some ⟨cb, 0, none⟩), .pointer (some ⟨eb, 0, none⟩)] .returning w fun e u' w' => e = .returned (.tuple #[]) ∧ u' = .returning ∧ w' = w := by
  refine callsD_of_wpS Tryz.func46 rfl fun c₀ cs hu => ?_
  apply wpS_region
  simp [wpOpsS, go_sem, recoverD, hu, Tryz.ntmps46]
  refine (settle_ok cb eb w he).mono ?_
  rintro e w1 ⟨rfl, rfl⟩
  cases c₀
  simp_all [bodyPostS, results, Tryz.results46]

set_option maxRecDepth 100000 in
set_option maxHeartbeats 400000 in
theorem commit1_none (cb eb : Nat) (n : Int) (hn : 1 ≤ n ∧ n ≤ 9) (w : World) (hc : w.cell? ⟨cb, 0, none⟩ = some (.slice none 0 0)) (he : w.cell? ⟨eb, 0, none⟩ = some (.int .i64 n)) :
    CallsD Tryz.prog 46 #[.pointer (some ⟨cb, 0, none⟩), .pointer (some ⟨eb, 0, none⟩)] .returning w fun e u' w' => e = .returned (.tuple #[]) ∧ u' = .returning ∧ Keeps (fun _ => False) w w' := by
  refine callsD_of_wpS Tryz.func46 rfl fun c₀ cs hu => ?_
  apply wpS_region
  simp [wpOpsS, go_sem, recoverD, hu, Tryz.ntmps46]
  refine (settle_none cb eb n hn w hc he).mono ?_
  rintro e w1 ⟨rfl, hk⟩
  cases c₀
  simp_all [bodyPostS, results, Tryz.results46]

set_option maxRecDepth 100000 in
set_option maxHeartbeats 400000 in
theorem abort1_ok (cb eb : Nat) (w : World) (he : w.cell? ⟨eb, 0, none⟩ = some (.int .i64 0)) :
    CallsD Tryz.prog 59 #[.pointer (some ⟨cb, 0, none⟩), .pointer (some ⟨eb, 0, none⟩)] .returning w fun e u' w' => e = .returned (.tuple #[]) ∧ u' = .returning ∧ w' = w := by
  refine callsD_of_wpS Tryz.func59 rfl fun c₀ cs hu => ?_
  apply wpS_region
  simp [wpOpsS, go_sem, recoverD, hu, Tryz.ntmps59]
  refine (settle_ok cb eb w he).mono ?_
  rintro e w1 ⟨rfl, rfl⟩
  cases c₀
  simp_all [bodyPostS, results, Tryz.results59]

set_option maxRecDepth 100000 in
set_option maxHeartbeats 400000 in
theorem abort1_none (cb eb : Nat) (n : Int) (hn : 1 ≤ n ∧ n ≤ 9) (w : World) (hc : w.cell? ⟨cb, 0, none⟩ = some (.slice none 0 0)) (he : w.cell? ⟨eb, 0, none⟩ = some (.int .i64 n)) :
    CallsD Tryz.prog 59 #[.pointer (some ⟨cb, 0, none⟩), .pointer (some ⟨eb, 0, none⟩)] .returning w fun e u' w' => e = .returned (.tuple #[]) ∧ u' = .returning ∧ Keeps (fun _ => False) w w' := by
  refine callsD_of_wpS Tryz.func59 rfl fun c₀ cs hu => ?_
  apply wpS_region
  simp [wpOpsS, go_sem, recoverD, hu, Tryz.ntmps59]
  refine (settle_none cb eb n hn w hc he).mono ?_
  rintro e w1 ⟨rfl, hk⟩
  cases c₀
  simp_all [bodyPostS, results, Tryz.results59]

set_option maxRecDepth 100000 in
set_option maxHeartbeats 400000 in
theorem sweep1_ok (cb eb : Nat) (w : World) (he : w.cell? ⟨eb, 0, none⟩ = some (.int .i64 0)) :
    CallsD Tryz.prog 68 #[.pointer (some ⟨cb, 0, none⟩), .pointer (some ⟨eb, 0, none⟩)] .returning w fun e u' w' => e = .returned (.tuple #[]) ∧ u' = .returning ∧ w' = w := by
  refine callsD_of_wpS Tryz.func68 rfl fun c₀ cs hu => ?_
  apply wpS_region
  simp [wpOpsS, go_sem, recoverD, hu, Tryz.ntmps68]
  refine (settle_ok cb eb w he).mono ?_
  rintro e w1 ⟨rfl, rfl⟩
  cases c₀
  simp_all [bodyPostS, results, Tryz.results68]

end Go.Proofs.YtpagenipflmlfaaGreatDoor

/- How a store lies in memory. -/

namespace Go.Proofs.YtpagenipflmlfaaGreatDoor

open Go.RowKit

/-- a version -/
structure Ver where
  state : Int
  value : ByteArray
  gone : Bool

def Ver.val (v : Ver) : Value := .agg #[.int .i64 v.state, .string v.value, .bool v.gone]

def Ver.cells (v : Ver) : List Value := [.int .i64 v.state, .string v.value, .bool v.gone]

/-- an open work, with its places -/
structure WkR where
  blk : Nat
  mb : Nat
  began : Int
  writes : List (ByteArray × Ver)

/-- a key's versions, with their place -/
structure HsR where
  sl : Value
  vers : List Ver

/-- an open copying -/
structure Cop where
  full : Bool
  from' : Int
  to : Int
  headed : Bool
  next : ByteArray
  sum : Int
  count : Int

def Cop.val (x : Cop) : Value := .agg #[.bool x.full, .int .i64 x.from', .int .i64 x.to, .bool x.headed, .string x.next, .int .u32 x.sum, .int .i64 x.count]

/-- a store, with its places -/
structure Rep where
  sb : Nat
  now : Int
  floor : Int
  begun : Int
  wm : Option Nat
  works : List (Int × WkR)
  pm : Option Nat
  pins : List (Int × Int)
  started : Int
  cm : Option Nat
  copyings : List (Int × Cop)
  kv : Value
  keys : List ByteArray
  vm : Option Nat
  hist : List (ByteArray × HsR)

/-- the blocks of what has been -/
def Rep.fpPast (R : Rep) : List Nat := R.kv.ownBlock.toList ++ R.vm.toList ++ R.hist.flatMap (fun p => p.2.sl.ownBlock.toList)

/-- the blocks of the pins and copyings -/
def pcOf (pm cm : Option Nat) : List Nat := pm.toList ++ cm.toList

/-- the blocks of the works, pins and copyings -/
def Rep.fpWorks (R : Rep) : List Nat := R.wm.toList ++ pcOf R.pm R.cm ++ R.works.flatMap (fun p => [p.2.blk, p.2.mb])

/-- the store's blocks -/
def Rep.fp (R : Rep) : List Nat := R.sb :: (R.fpWorks ++ R.fpPast)

def workPtr (x : WkR) : Value := .pointer (some ⟨x.blk, 0, none⟩)

/-- What has been lies so. -/
structure PastAt (w : World) (kv : Value) (keys : List ByteArray) (vm : Option Nat) (hist : List (ByteArray × HsR)) : Prop where
  keysRow : Row w 9 1 kv keys.length (keys.map Value.string)
  histMap : OptMap Value.string w vm (hist.map fun p => (p.1, p.2.sl))
  histEach : ∀ p ∈ hist, Row w 107 3 p.2.sl p.2.vers.length (p.2.vers.flatMap Ver.cells)

/-- The works and pins lie so. -/
structure WorksAt (w : World) (R : Rep) : Prop where
  worksMap : OptMap (Value.int .i64) w R.wm (R.works.map fun p => (p.1, workPtr p.2))
  worksEach : ∀ p ∈ R.works, w.heap[p.2.blk]? = some (.cells #[.int .i64 p.2.began, .map (some p.2.mb)] 104 (0, 0)) ∧ MapAt Value.string w p.2.mb (p.2.writes.map fun q => (q.1, q.2.val))
  pinsMap : OptMap (Value.int .i64) w R.pm (R.pins.map fun p => (p.1, .int .i64 p.2))
  copyMap : OptMap (Value.int .i64) w R.cm (R.copyings.map fun p => (p.1, p.2.val))

def topCells (R : Rep) : Array Value := #[.int .i64 R.now, .int .i64 R.floor, .int .i64 R.begun, .map R.wm, .map R.pm, .int .i64 R.started, .map R.cm, R.kv, .map R.vm]

/-- The store lies so. -/
structure StoreAt (w : World) (R : Rep) : Prop where
  top : w.heap[R.sb]? = some (.cells (topCells R) 65 (0, 0))
  works : WorksAt w R
  past : PastAt w R.kv R.keys R.vm R.hist
  nodup : R.fp.Nodup

theorem PastAt.kept {w w' : World} {kv : Value} {keys : List ByteArray} {vm : Option Nat} {hist : List (ByteArray × HsR)} {S : Nat → Prop} (h : PastAt w kv keys vm hist) (hk : Keeps S w w')
    (hS : ∀ k, k ∈ kv.ownBlock.toList ++ vm.toList ++ hist.flatMap (fun p => p.2.sl.ownBlock.toList) → ¬ S k) : PastAt w' kv keys vm hist := by
  refine ⟨h.keysRow.kept hk (fun g hg => hS g (by simp [hg])), h.histMap.kept hk (fun b hb => hS b (by simp [hb])), fun p hp => (h.histEach p hp).kept hk (fun g hg => hS g ?_)⟩
  simp only [List.mem_append, List.mem_flatMap]
  exact .inr ⟨p, hp, by simp [hg]⟩

theorem WorksAt.kept {w w' : World} {R : Rep} {S : Nat → Prop} (h : WorksAt w R) (hk : Keeps S w w') (hS : ∀ k, k ∈ R.fpWorks → ¬ S k) : WorksAt w' R := by
  refine ⟨h.worksMap.kept hk (fun b hb => hS b (by simp [Rep.fpWorks, hb])), fun p hp => ?_, h.pinsMap.kept hk (fun b hb => hS b (by simp [Rep.fpWorks, pcOf, hb])), h.copyMap.kept hk (fun b hb => hS b (by simp [Rep.fpWorks, pcOf, hb]))⟩
  obtain ⟨h1, h2⟩ := h.worksEach p hp
  have hm : ∀ k, k = p.2.blk ∨ k = p.2.mb → ¬ S k := fun k hk' => hS k (by
    simp only [Rep.fpWorks, List.mem_append, List.mem_flatMap]
    exact .inr ⟨p, hp, by simpa using hk'⟩)
  exact ⟨(hk.block _ (Array.getElem?_eq_some_iff.1 h1).1 (hm _ (.inl rfl))).trans h1, h2.kept hk (hm _ (.inr rfl))⟩

theorem StoreAt.kept {w w' : World} {R : Rep} {S : Nat → Prop} (h : StoreAt w R) (hk : Keeps S w w') (hS : ∀ k, k ∈ R.fp → ¬ S k) : StoreAt w' R :=
  ⟨(hk.block _ (Array.getElem?_eq_some_iff.1 h.top).1 (hS _ (by simp [Rep.fp]))).trans h.top, h.works.kept hk (fun k hk' => hS k (by simp [Rep.fp, hk'])),
    h.past.kept hk (fun k hk' => hS k (List.mem_cons_of_mem _ (List.mem_append_right _ hk'))), h.nodup⟩

theorem StoreAt.cell {w : World} {R : Rep} (h : StoreAt w R) (j : Nat) : w.cell? ⟨R.sb, j, none⟩ = (topCells R)[j]? := by simp [World.cell?, h.top]

theorem StoreAt.frozen {w : World} {R : Rep} (h : StoreAt w R) (j : Nat) : w.frozen? ⟨R.sb, j, none⟩ = false := by simp [World.frozen?, h.top]

theorem StoreAt.lt {w : World} {R : Rep} (h : StoreAt w R) : R.sb < w.heap.size := (Array.getElem?_eq_some_iff.1 h.top).1

/-- All nine cells, for a walk. -/
theorem StoreAt.seven {w : World} {R : Rep} (h : StoreAt w R) : w.cell? ⟨R.sb, 0, none⟩ = some (.int .i64 R.now) ∧ w.cell? ⟨R.sb, 1, none⟩ = some (.int .i64 R.floor) ∧ w.cell? ⟨R.sb, 2, none⟩ = some (.int .i64 R.begun) ∧
    w.cell? ⟨R.sb, 3, none⟩ = some (.map R.wm) ∧ w.cell? ⟨R.sb, 4, none⟩ = some (.map R.pm) ∧ w.cell? ⟨R.sb, 5, none⟩ = some (.int .i64 R.started) ∧ w.cell? ⟨R.sb, 6, none⟩ = some (.map R.cm) ∧ w.cell? ⟨R.sb, 7, none⟩ = some R.kv ∧ w.cell? ⟨R.sb, 8, none⟩ = some (.map R.vm) :=
  ⟨h.cell 0, h.cell 1, h.cell 2, h.cell 3, h.cell 4, h.cell 5, h.cell 6, h.cell 7, h.cell 8⟩

set_option maxRecDepth 100000 in
set_option maxHeartbeats 400000 in
/-- find: the open work of a number -/
theorem find_any (R : Rep) (n : Int) (w : World) (h : StoreAt w R) :
    Calls Tryz.prog 47 #[.pointer (some ⟨R.sb, 0, none⟩), .int .i64 n] w fun e w' => e = .returned (((look R.works n).map workPtr).getD (.pointer none)) ∧ w' = w := by
  have hw := h.works.worksMap
  obtain ⟨-, -, -, h3, -, -, -, -, -⟩ := h.seven
  generalize R.sb = sb at *
  go_enter Tryz.func47, Tryz.ntmps47
  go_wp2_with (at_lookup; go_must (refine wpList_lookup_opt _ rfl _ _ 58 rfl 3 101 intKeyOk Tryz.underlying58 Tryz.underlying3 _ (Tryz.zeroWork _) R.wm rfl n rfl _ hw ?_))
  go_ret
  refine ⟨?_, rfl⟩
  simp [look_map]

end Go.Proofs.YtpagenipflmlfaaGreatDoor

/- What has been: which version of a key a state has. -/

namespace Go.Proofs.YtpagenipflmlfaaGreatDoor

open Go.RowKit

set_option maxRecDepth 100000 in
set_option maxHeartbeats 400000 in
/-- upTo's closure: is the i-th version above the state? -/
theorem upTo1_any (i : Nat) (ab tb g len cap : Nat) (t st : Int) (w : World) (hi : i < len) (ha : w.cell? ⟨ab, 0, none⟩ = some (.slice (some ⟨g, 0, none⟩) len cap)) (ht : w.cell? ⟨tb, 0, none⟩ = some (.int .i64 t)) (hc : w.cell? ⟨g, i * 3, none⟩ = some (.int .i64 st)) :
    Calls Tryz.prog 152 #[.int .i64 i, .pointer (some ⟨ab, 0, none⟩), .pointer (some ⟨tb, 0, none⟩)] w fun e w' => e = .returned (.bool (decide (t < st))) ∧ Keeps (fun _ => False) w w' := by
  go_enter Tryz.func152, Tryz.ntmps152
  go_wp2
  go_region
  go_wp2
  go_ret
  exact ⟨rfl, Keeps.drew _ _⟩

theorem upTo1_int (x : Int) (i : Nat) (ab tb g len cap : Nat) (t st : Int) (w : World) (hx : x = i) (hi : i < len) (ha : w.cell? ⟨ab, 0, none⟩ = some (.slice (some ⟨g, 0, none⟩) len cap)) (ht : w.cell? ⟨tb, 0, none⟩ = some (.int .i64 t)) (hc : w.cell? ⟨g, i * 3, none⟩ = some (.int .i64 st)) :
    Calls Tryz.prog 152 #[.int .i64 x, .pointer (some ⟨ab, 0, none⟩), .pointer (some ⟨tb, 0, none⟩)] w fun e w' => e = .returned (.bool (decide (t < st))) ∧ Keeps (fun _ => False) w w' := by
  subst hx
  exact upTo1_any i ab tb g len cap t st w hi ha ht hc

set_option maxRecDepth 100000 in
set_option maxHeartbeats 400000 in
/-- sort.Search with it: how many versions are not above the state -/
theorem search_any (n : Nat) (ab tb g cap : Nat) (t : Int) (st : Nat → Int) (w : World) (hl : n ≤ 1000000000000) (ha : w.cell? ⟨ab, 0, none⟩ = some (.slice (some ⟨g, 0, none⟩) n cap)) (ht : w.cell? ⟨tb, 0, none⟩ = some (.int .i64 t))
    (hc : ∀ j, j < n → w.cell? ⟨g, j * 3, none⟩ = some (.int .i64 (st j))) (hs : ∀ i j, i ≤ j → j < n → st i ≤ st j) :
    Calls Tryz.prog 151 #[.int .i64 n, .func (.func 152) #[] #[.pointer (some ⟨ab, 0, none⟩), .pointer (some ⟨tb, 0, none⟩)]] w fun e w' =>
      ∃ r : Nat, e = .returned (.int .i64 r) ∧ r ≤ n ∧ (∀ j, j < r → st j ≤ t) ∧ (∀ j, r ≤ j → j < n → t < st j) ∧ Keeps (fun _ => False) w w' := by
  have HC : Hid (∀ j, j < n → w.cell? ⟨g, j * 3, none⟩ = some (.int .i64 (st j))) := hc
  have HS : Hid (∀ i j, i ≤ j → j < n → st i ≤ st j) := hs
  clear hc hs
  go_enter Tryz.func151, Tryz.ntmps151
  go_wp2
  go_loopw [5, 6] (fun x y wr => ∃ i j : Nat, x = .int .i64 i ∧ y = .int .i64 j ∧ i ≤ j ∧ j ≤ n ∧ (∀ k, k < i → st k ≤ t) ∧ (∀ k, j ≤ k → k < n → t < st k) ∧ Keeps (fun _ => False) w wr) (fun x y _ => ((intOf y) - (intOf x)).toNat)
  case atStart => exact ⟨0, n, rfl, rfl, Nat.zero_le _, Nat.le_refl _, fun k hk => by omega, fun k h1 h2 => by omega, Keeps.refl _ _⟩
  case round =>
    obtain ⟨i, j, rfl, rfl, hij, hjn, hlo, hhi, hkr⟩ := hrel
    by_cases hlt : i < j
    · obtain ⟨m, hm⟩ : ∃ m : Nat, m = (i + j) / 2 := ⟨_, rfl⟩
      have hm1 : i ≤ m := by omega
      have hm2 : m < j := by omega
      have hmz : ((i : Int) + j) / 2 = m := by omega
      have HM : Hid (((i : Int) + j) / 2 = m) := hmz
      have har : wr.cell? ⟨ab, 0, none⟩ = some (.slice (some ⟨g, 0, none⟩) n cap) := hkr.cell (p := ⟨ab, 0, none⟩) ha (fun h => h)
      have htr : wr.cell? ⟨tb, 0, none⟩ = some (.int .i64 t) := hkr.cell (p := ⟨tb, 0, none⟩) ht (fun h => h)
      have hcr : wr.cell? ⟨g, m * 3, none⟩ = some (.int .i64 (st m)) := hkr.cell (p := ⟨g, m * 3, none⟩) (HC.out m (by omega)) (fun h => h)
      have hct := upTo1_int (((i : Int) + j) / 2) m ab tb g n cap t (st m) wr hmz (by omega) har htr hcr
      clear hmz hm hcr har htr
      by_cases hd : t < st m
      · have hb : decide (t < st m) = true := by simpa using hd
        rw [hb] at hct
        clear hb
        go_wp2_with (go_at_call 152; go_must (refine hct.mono ?_; rintro e w1 ⟨rfl, hk1⟩))
        go_roundw
        case rel => exact ⟨i, m, rfl, by rw [HM.out], hm1, by omega, hlo, fun k h1 h2 => Int.lt_of_lt_of_le hd (HS.out m k h1 h2), hkr.tr hk1 (fun _ h => h)⟩
        case measure => simp [intOf]; omega
      · have hb : decide (t < st m) = false := by simpa using hd
        rw [hb] at hct
        clear hb
        go_wp2_with (go_at_call 152; go_must (refine hct.mono ?_; rintro e w1 ⟨rfl, hk1⟩))
        go_roundw
        case rel => exact ⟨m + 1, j, by rw [HM.out]; rfl, rfl, by omega, hjn, fun k hk => Int.le_trans (HS.out k m (by omega) (by omega)) (by omega), hhi, hkr.tr hk1 (fun _ h => h)⟩
        case measure => simp [intOf]; omega
    · go_wp2
      go_ret
      have : i = j := by omega
      subst this
      exact ⟨i, rfl, hjn, hlo, hhi, hkr⟩

end Go.Proofs.YtpagenipflmlfaaGreatDoor

/- What has been: upTo, At, Last. -/

namespace Go.Proofs.YtpagenipflmlfaaGreatDoor

open Go.RowKit

/-- how many of a key's versions are not above a state -/
def upN (vs : List Ver) (t : Int) : Nat := (vs.takeWhile (fun v => decide (v.state ≤ t))).length

/-- versions in rising order of their states -/
def Rising (vs : List Ver) : Prop := vs.Pairwise (fun a b => a.state < b.state)

theorem upN_eq : ∀ {vs : List Ver} {t : Int} {r : Nat}, r ≤ vs.length → (∀ j (h : j < vs.length), j < r → vs[j].state ≤ t) → (∀ j (h : j < vs.length), r ≤ j → t < vs[j].state) → upN vs t = r
  | [], t, r, h, _, _ => by simp at h; subst h; rfl
  | v :: vs, t, 0, _, _, h2 => by
    have := h2 0 (by simp) (by omega)
    simp only [List.getElem_cons_zero] at this
    simp [upN, List.takeWhile_cons]
    omega
  | v :: vs, t, r + 1, h, h1, h2 => by
    have h0 := h1 0 (by simp) (by omega)
    simp only [List.getElem_cons_zero] at h0
    have ih := upN_eq (vs := vs) (t := t) (r := r) (by simpa using h) (fun j hj hr => h1 (j + 1) (by simpa using hj) (by omega)) (fun j hj hr => h2 (j + 1) (by simpa using hj) (by omega))
    unfold upN at ih ⊢
    simp [h0, ih]

theorem upN_le (vs : List Ver) (t : Int) : upN vs t ≤ vs.length := by
  unfold upN
  exact (List.takeWhile_sublist _).length_le

theorem cells_at : ∀ (vs : List Ver) (j : Nat) (r : Nat) (hj : j < vs.length), r < 3 → (vs.flatMap Ver.cells)[j * 3 + r]? = vs[j].cells[r]?
  | v :: vs, 0, r, _, hr => by
    simp only [List.flatMap_cons, Nat.zero_mul, Nat.zero_add, List.getElem_cons_zero]
    rw [List.getElem?_append_left (by simpa [Ver.cells] using hr)]
  | v :: vs, j + 1, r, hj, hr => by
    simp only [List.flatMap_cons, List.getElem_cons_succ]
    rw [List.getElem?_append_right (by simp [Ver.cells]; omega)]
    have e : (j + 1) * 3 + r - v.cells.length = j * 3 + r := by simp [Ver.cells]; omega
    rw [e]
    exact cells_at vs j r (by simpa using hj) hr

theorem cells_length (vs : List Ver) : (vs.flatMap Ver.cells).length = vs.length * 3 := by
  induction vs with
  | nil => rfl
  | cons v vs ih => simp only [List.flatMap_cons, List.length_append, ih, List.length_cons]; simp [Ver.cells]; omega

/-- A version's three cells, in a slice of versions. -/
theorem Row.ver {w : World} {g cap : Nat} {vs : List Ver} (h : Row w 107 3 (.slice (some ⟨g, 0, none⟩) vs.length cap) vs.length (vs.flatMap Ver.cells)) (j : Nat) (hj : j < vs.length) :
    w.cell? ⟨g, j * 3, none⟩ = some (.int .i64 vs[j].state) ∧ w.cell? ⟨g, j * 3 + 1, none⟩ = some (.string vs[j].value) ∧ w.cell? ⟨g, j * 3 + 2, none⟩ = some (.bool vs[j].gone) := by
  refine ⟨?_, ?_, ?_⟩
  · rw [h.cellAt (j * 3) (by omega)]; exact cells_at vs j 0 hj (by omega)
  · rw [h.cellAt (j * 3 + 1) (by omega)]; exact cells_at vs j 1 hj (by omega)
  · rw [h.cellAt (j * 3 + 2) (by omega)]; exact cells_at vs j 2 hj (by omega)

theorem Rising.le {vs : List Ver} (h : Rising vs) {i j : Nat} (hij : i ≤ j) (hj : j < vs.length) : vs[i].state ≤ vs[j].state := by
  rcases Nat.lt_or_eq_of_le hij with hl | rfl
  · exact Int.le_of_lt (List.pairwise_iff_getElem.1 h i j (by omega) hj hl)
  · exact Int.le_refl _

set_option maxRecDepth 100000 in
set_option maxHeartbeats 400000 in
/-- sort.Search among none -/
theorem search_zero (ab tb : Nat) (w : World) :
    Calls Tryz.prog 151 #[.int .i64 0, .func (.func 152) #[] #[.pointer (some ⟨ab, 0, none⟩), .pointer (some ⟨tb, 0, none⟩)]] w fun e w' => e = .returned (.int .i64 0) ∧ w' = w := by
  go_enter Tryz.func151, Tryz.ntmps151
  go_wp2
  go_loopw [5, 6] (fun x y wr => x = .int .i64 0 ∧ y = .int .i64 0 ∧ wr = w) (fun _ _ _ => 0)
  case atStart => exact ⟨rfl, rfl, rfl⟩
  case round =>
    obtain ⟨rfl, rfl, rfl⟩ := hrel
    go_wp2
    go_ret
    exact ⟨rfl, rfl⟩

set_option maxRecDepth 100000 in
set_option maxHeartbeats 400000 in
theorem upTo_nil (t : Int) (w : World) :
    Calls Tryz.prog 124 #[.slice none 0 0, .int .i64 t] w fun e w' => e = .returned (.int .i64 0) ∧ Keeps (fun _ => False) w w' := by
  have hmf : ∀ (fn : Fn) (first cap : Array Value) (w : World), (Instr.makeFunc fn first cap).run Tryz.prog w = .ok (.func fn first cap) w := fun _ _ _ _ => rfl
  go_enter Tryz.func124, Tryz.ntmps124
  go_wp2_with (go_at_call 151; go_must (refine (search_zero _ _ _).mono ?_; rintro e w1 ⟨rfl, rfl⟩))
  go_ret
  exact ⟨rfl, ((Keeps.refl _ w).al _).al _⟩

set_option maxRecDepth 100000 in
set_option maxHeartbeats 400000 in
theorem upTo_some (g cap : Nat) (vs : List Ver) (t : Int) (w : World) (h : Row w 107 3 (.slice (some ⟨g, 0, none⟩) vs.length cap) vs.length (vs.flatMap Ver.cells)) (hs : Rising vs) (hl : vs.length ≤ 1000000000000) :
    Calls Tryz.prog 124 #[.slice (some ⟨g, 0, none⟩) vs.length cap, .int .i64 t] w fun e w' => e = .returned (.int .i64 (upN vs t)) ∧ Keeps (fun _ => False) w w' := by
  have hmf : ∀ (fn : Fn) (first cap : Array Value) (w : World), (Instr.makeFunc fn first cap).run Tryz.prog w = .ok (.func fn first cap) w := fun _ _ _ _ => rfl
  have hh : ∀ (o1 o2 : Obj), Row ((w.alloc o1).alloc o2) 107 3 (.slice (some ⟨g, 0, none⟩) vs.length cap) vs.length (vs.flatMap Ver.cells) := fun o1 o2 => (h.kept (Keeps.alloc (fun _ => False) w o1) (fun _ _ h => h)).kept (Keeps.alloc (fun _ => False) _ o2) (fun _ _ h => h)
  have hc : ∀ (o1 o2 : Obj), ∀ j, j < vs.length → ((w.alloc o1).alloc o2).cell? ⟨g, j * 3, none⟩ = some (.int .i64 ((vs[j]?.map Ver.state).getD 0)) := fun o1 o2 j hj => by
    rw [((hh o1 o2).ver j hj).1]; simp [hj]
  have hst : ∀ i j, i ≤ j → j < vs.length → (vs[i]?.map Ver.state).getD 0 ≤ (vs[j]?.map Ver.state).getD 0 := fun i j hij hj => by
    have hi : i < vs.length := by omega
    simpa [hi, hj] using hs.le hij hj
  go_enter Tryz.func124, Tryz.ntmps124
  go_wp2_with (go_at_call 151; go_must (refine (search_any vs.length w.heap.size (w.heap.size + 1) g cap t (fun j => (vs[j]?.map Ver.state).getD 0) _ hl (by rw [World.cell?_alloc_past _ _ _ (by simp), World.cell?_alloc_at _ _ _ _ rfl]; rfl) (by rw [World.cell?_alloc_at _ _ _ _ (by simp)]; rfl) (hc _ _) hst).mono ?_; rintro e w1 ⟨r, rfl, hr1, hr2, hr3, hk1⟩))
  go_ret
  have e : upN vs t = r := upN_eq hr1 (fun j hj hjr => by simpa [hj] using hr2 j hjr) (fun j hj hjr => by simpa [hj] using hr3 j hjr hj)
  exact ⟨by rw [e]; rfl, (((Keeps.refl _ w).al _).al _).tr hk1 (fun _ h => h)⟩

/-- a key's versions -/
def versOf (hist : List (ByteArray × HsR)) (key : ByteArray) : List Ver := ((look hist key).map HsR.vers).getD []

/-- a key's version of a state -/
def atVer (vs : List Ver) (t : Int) : Option Ver := if upN vs t = 0 then none else vs[upN vs t - 1]?

def Ver.zero : Ver := ⟨0, ByteArray.empty, false⟩

theorem Tryz.zeroVersions (w : World) : (zeroValue 114).run Tryz.prog w = .ok (.slice none 0 0) w := by kernel_rfl

/-- The slice that stands at a key. -/
theorem PastAt.slice {w : World} {kv : Value} {keys : List ByteArray} {vm : Option Nat} {hist : List (ByteArray × HsR)} (h : PastAt w kv keys vm hist) (key : ByteArray) :
    Row w 107 3 ((look (hist.map fun p => (p.1, p.2.sl)) key).getD (.slice none 0 0)) (versOf hist key).length ((versOf hist key).flatMap Ver.cells) := by
  rw [look_map]
  unfold versOf
  cases hl : look hist key with
  | none => exact Row.nil _ _ _
  | some x => exact h.histEach (key, x) (look_mem hl)

/-- .. written out -/
theorem Row.shape {w : World} {e : TypeId} {size : Nat} {v : Value} {n : Nat} {xs : List Value} (h : Row w e size v n xs) : (v = .slice none 0 0 ∧ n = 0) ∨ ∃ g cap, v = .slice (some ⟨g, 0, none⟩) n cap ∧ n ≤ cap ∧ cap ≤ maxLen := by
  rcases h.2 with h | ⟨g, cap, cur, hv, _, h1, h2, _⟩
  · exact .inl h
  · exact .inr ⟨g, cap, hv, h1, h2⟩

theorem at_results (W : World) (b : Nat) (x y z : Value) (f : Bool) (tmps : Array Value) (h6 : tmps.getD 6 undef = .pointer (some ⟨b, 0, none⟩)) (h7 : tmps.getD 7 undef = .bool f) (h : W.heap[b]? = some (.cells #[x, y, z] 107 (0, 0))) :
    (results Tryz.f86 tmps).run Tryz.prog W = .ok (.tuple #[.agg #[x, y, z], .bool f]) W := by
  obtain ⟨hz0, hz1, hz2, -, -, -⟩ := three_cells h
  simp only [Array.getD_eq_getD_getElem?] at h6 h7
  simp [results, Tryz.results86, go_sem, h6, h7, hz0, hz1, hz2]

set_option maxRecDepth 100000 in
set_option maxHeartbeats 400000 in
theorem at_core (pb : Nat) (key : ByteArray) (t : Int) (vm : Option Nat) (l : List (ByteArray × Value)) (sl : Value) (vs : List Ver) (w : World) (hc : w.cell? ⟨pb, 8, none⟩ = some (.map vm)) (hm : OptMap Value.string w vm l) (hsl : (look l key).getD (.slice none 0 0) = sl)
    (hr : Row w 107 3 sl vs.length (vs.flatMap Ver.cells)) (hs : Rising vs) (hl : vs.length ≤ 1000000000000) :
    Calls Tryz.prog 86 #[.pointer (some ⟨pb, 7, none⟩), .string key, .int .i64 t] w fun e w' => e = .returned (.tuple #[((atVer vs t).getD Ver.zero).val, .bool (atVer vs t).isSome]) ∧ Keeps (fun _ => False) w w' := by
  have hlt : pb < w.heap.size := World.block_lt_of_cell? _ _ hc
  have HSL : Hid ((look l key).getD (.slice none 0 0) = sl) := hsl
  clear hsl
  have hmz : OptMap Value.string (w.alloc (.cells #[.int .i64 0, .string ByteArray.empty, .bool false] 107)) vm l := hm.kept (Keeps.alloc (fun _ => False) _ _) (fun _ _ h => h)
  rcases hr.shape with ⟨rfl, h0⟩ | ⟨g, cap, rfl, hcap1, hcap2⟩
  · obtain rfl : vs = [] := List.eq_nil_of_length_eq_zero h0
    clear hr h0
    go_enter Tryz.func86, Tryz.ntmps86
    go_wp2_with (first
      | (at_lookup; go_must (refine wpList_lookup_opt _ rfl _ _ 61 rfl 9 114 strKeyOk Tryz.underlying61 Tryz.underlying9 _ (Tryz.zeroVersions _) vm rfl key rfl l hmz ?_; rw [HSL.out]))
      | (go_at_call 124; go_must (refine (upTo_nil t _).mono ?_; rintro e w1 ⟨rfl, hk1⟩; obtain ⟨hx0, hx1, hx2, hy0, hy1, hy2⟩ := three_cells (box_kept hk1 (fun h => h)))))
    refine bodyPost_ret (at_results _ _ _ _ _ _ _ rfl rfl (heap_set3 (box_kept hk1 (fun h => h)) _ _ _)) rfl ⟨rfl, ?_⟩
    exact ((((Keeps.refl _ w).al _).tr hk1 (fun _ h => h)).st (.inl (Nat.le_refl _)) _ |>.st (.inl (Nat.le_refl _)) _).st (.inl (Nat.le_refl _)) _
  · have hu := upN_le vs t
    have hct := fun W hW => upTo_some g cap vs t W hW hs hl
    have hr1 : Row (w.alloc (.cells #[.int .i64 0, .string ByteArray.empty, .bool false] 107)) 107 3 (.slice (some ⟨g, 0, none⟩) vs.length cap) vs.length (vs.flatMap Ver.cells) := hr.kept (Keeps.alloc (fun _ => False) _ _) (fun _ _ h => h)
    have hcall := hct _ hr1
    clear hct
    rcases Nat.eq_zero_or_pos (upN vs t) with hz | hz
    · have HA : Hid (atVer vs t = none) := by unfold Hid atVer; rw [if_pos hz]
      rw [hz] at hcall
      clear hz hu hr1
      go_enter Tryz.func86, Tryz.ntmps86
      go_wp2_with (first
        | (at_lookup; go_must (refine wpList_lookup_opt _ rfl _ _ 61 rfl 9 114 strKeyOk Tryz.underlying61 Tryz.underlying9 _ (Tryz.zeroVersions _) vm rfl key rfl l hmz ?_; rw [HSL.out]))
        | (go_at_call 124; go_must (refine hcall.mono ?_; rintro e w1 ⟨rfl, hk1⟩; obtain ⟨hx0, hx1, hx2, hy0, hy1, hy2⟩ := three_cells (box_kept hk1 (fun h => h)))))
      rw [HA.out]
      refine bodyPost_ret (at_results _ _ _ _ _ _ _ rfl rfl (heap_set3 (box_kept hk1 (fun h => h)) _ _ _)) rfl ⟨rfl, ?_⟩
      exact ((((Keeps.refl _ w).al _).tr hk1 (fun _ h => h)).st (.inl (Nat.le_refl _)) _ |>.st (.inl (Nat.le_refl _)) _).st (.inl (Nat.le_refl _)) _
    · obtain ⟨m, hm⟩ : ∃ m, upN vs t = m + 1 := ⟨upN vs t - 1, by omega⟩
      have hmv : m < vs.length := by omega
      have HA : Hid (atVer vs t = some vs[m]) := by unfold Hid atVer; rw [if_neg (by omega), hm]; simp [hmv]
      have HR : Hid (Row (w.alloc (.cells #[.int .i64 0, .string ByteArray.empty, .bool false] 107)) 107 3 (.slice (some ⟨g, 0, none⟩) vs.length cap) vs.length (vs.flatMap Ver.cells)) := hr1
      rw [hm] at hcall
      clear hm hz hu hr1
      go_enter Tryz.func86, Tryz.ntmps86
      go_wp2_with (first
        | (at_lookup; go_must (refine wpList_lookup_opt _ rfl _ _ 61 rfl 9 114 strKeyOk Tryz.underlying61 Tryz.underlying9 _ (Tryz.zeroVersions _) vm rfl key rfl l hmz ?_; rw [HSL.out]))
        | (go_at_call 124; go_must (refine hcall.mono ?_; rintro e w1 ⟨rfl, hk1⟩; obtain ⟨hx0, hx1, hx2, hy0, hy1, hy2⟩ := three_cells (box_kept hk1 (fun h => h)); obtain ⟨hv0, hv1, hv2⟩ := (HR.out.kept hk1 (fun _ _ h => h)).ver m hmv)))
      rw [HA.out]
      refine bodyPost_ret (at_results _ _ _ _ _ _ _ rfl rfl (heap_set3 (box_kept hk1 (fun h => h)) _ _ _)) rfl ⟨rfl, ?_⟩
      exact ((((Keeps.refl _ w).al _).tr hk1 (fun _ h => h)).st (.inl (Nat.le_refl _)) _ |>.st (.inl (Nat.le_refl _)) _).st (.inl (Nat.le_refl _)) _

end Go.Proofs.YtpagenipflmlfaaGreatDoor
