import Derived.Test.YtpagenipflmlfaaGreatDoorM21

/- The change, for pins and copyings: assign, putBack, enter, remove; the deferred steps of the calls that change them. -/

namespace Go.Proofs.YtpagenipflmlfaaGreatDoor

open Go.RowKit Go.Shelf

theorem Tryz.zeroIntV (w : World) : (zeroValue 3).run Tryz.prog w = .ok (.int .i64 0) w := by kernel_rfl

def Cop.zero : Cop := ⟨false, 0, 0, false, ByteArray.empty, 0, 0⟩

theorem Tryz.zeroCop (w : World) : (zeroValue 129).run Tryz.prog w = .ok Cop.zero.val w := by kernel_rfl

set_option maxRecDepth 100000 in
set_option maxHeartbeats 400000 in
theorem assign_pins (cb : Nat) (fs : List Value) (C : List Nat) (pb po : Nat) (old new : Option Nat) (w : World) (h : Chg w cb fs C) (hc : w.cell? ⟨pb, po, none⟩ = some (.map old)) (hfz : w.frozen? ⟨pb, po, none⟩ = false) (hp : pb ∉ C) (hl : fs.length < 1000000000000) :
    Calls Tryz.prog 28 #[.pointer (some ⟨cb, 0, none⟩), .pointer (some ⟨pb, po, none⟩), .map new] w fun e w' => e = .returned (.tuple #[]) ∧
      ∃ fs' C', fs'.length = fs.length + 1 ∧ Chg w' cb fs' C' ∧ Keeps (fun k => k ∈ C ∨ k = pb) w w' ∧ (∀ k ∈ C', k ∈ C ∨ w.heap.size ≤ k) ∧ w'.heap[pb]? = (w.setCell ⟨pb, po, none⟩ (.map new)).heap[pb]? := by
  have hlt : pb < w.heap.size := World.block_lt_of_cell? _ _ hc
  have HL : Hid (fs.length < 1000000000000) := hl
  have HP : Hid (pb ∉ C) := hp
  clear hl hp
  have hmf : ∀ (fn : Fn) (first cap : Array Value) (w : World), (Instr.makeFunc fn first cap).run Tryz.prog w = .ok (.func fn first cap) w := fun _ _ _ _ => rfl
  go_enter Tryz.func28, Tryz.ntmps28
  go_wp2_with (go_at_call 53; go_must (refine (undoBy_any cb fs C _ _ _ (h.kept ((Keeps.alloc (fun _ => False) w _).trans (Keeps.alloc (fun _ => False) _ _) (fun _ _ h => h)) (fun _ _ h => h)) (by have := HL.out; omega)).mono ?_; rintro e w1 ⟨rfl, C1, hC1, hk1, hC1'⟩; obtain ⟨hcs, hfs, hbx⟩ := assign_cells h hk1 hc hfz HP.out))
  go_end0
  obtain ⟨hk2, hb2⟩ := assign_end hk1 hlt HP.out (.map new) po
  refine ⟨rfl, _, C1, ?_, hC1.kept (Keeps.setCell _ _ _) (fun k hk e => ?_), hk2, fun k hk => ?_, hb2⟩
  · simp
  · have e' : k = pb := e
    subst e'
    rcases hC1' k hk with h1 | h1
    · exact HP.out h1
    · simp at h1; omega
  · rcases hC1' k hk with h1 | h1
    · exact .inl h1
    · simp at h1; right; omega

set_option maxRecDepth 100000 in
set_option maxHeartbeats 400000 in
theorem assign_cops (cb : Nat) (fs : List Value) (C : List Nat) (pb po : Nat) (old new : Option Nat) (w : World) (h : Chg w cb fs C) (hc : w.cell? ⟨pb, po, none⟩ = some (.map old)) (hfz : w.frozen? ⟨pb, po, none⟩ = false) (hp : pb ∉ C) (hl : fs.length < 1000000000000) :
    Calls Tryz.prog 62 #[.pointer (some ⟨cb, 0, none⟩), .pointer (some ⟨pb, po, none⟩), .map new] w fun e w' => e = .returned (.tuple #[]) ∧
      ∃ fs' C', fs'.length = fs.length + 1 ∧ Chg w' cb fs' C' ∧ Keeps (fun k => k ∈ C ∨ k = pb) w w' ∧ (∀ k ∈ C', k ∈ C ∨ w.heap.size ≤ k) ∧ w'.heap[pb]? = (w.setCell ⟨pb, po, none⟩ (.map new)).heap[pb]? := by
  have hlt : pb < w.heap.size := World.block_lt_of_cell? _ _ hc
  have HL : Hid (fs.length < 1000000000000) := hl
  have HP : Hid (pb ∉ C) := hp
  clear hl hp
  have hmf : ∀ (fn : Fn) (first cap : Array Value) (w : World), (Instr.makeFunc fn first cap).run Tryz.prog w = .ok (.func fn first cap) w := fun _ _ _ _ => rfl
  go_enter Tryz.func62, Tryz.ntmps62
  go_wp2_with (go_at_call 53; go_must (refine (undoBy_any cb fs C _ _ _ (h.kept ((Keeps.alloc (fun _ => False) w _).trans (Keeps.alloc (fun _ => False) _ _) (fun _ _ h => h)) (fun _ _ h => h)) (by have := HL.out; omega)).mono ?_; rintro e w1 ⟨rfl, C1, hC1, hk1, hC1'⟩; obtain ⟨hcs, hfs, hbx⟩ := assign_cells h hk1 hc hfz HP.out))
  go_end0
  obtain ⟨hk2, hb2⟩ := assign_end hk1 hlt HP.out (.map new) po
  refine ⟨rfl, _, C1, ?_, hC1.kept (Keeps.setCell _ _ _) (fun k hk e => ?_), hk2, fun k hk => ?_, hb2⟩
  · simp
  · have e' : k = pb := e
    subst e'
    rcases hC1' k hk with h1 | h1
    · exact HP.out h1
    · simp at h1; omega
  · rcases hC1' k hk with h1 | h1
    · exact .inl h1
    · simp at h1; right; omega

set_option maxRecDepth 100000 in
set_option maxHeartbeats 400000 in
theorem putBack_pin (b : Nat) (k : Int) (l : List (Int × Value)) (q : Int) (w : World) (h : MapAt (Value.int .i64) w b l) (hv : (look l k).getD (.int .i64 0) = .int .i64 q) :
    Calls Tryz.prog 55 #[.map (some b), .int .i64 k] w fun e w' => (∃ cap, e = .returned (.func (.func 88) #[] cap)) ∧ Keeps (fun _ => False) w w' := by
  have hmf : ∀ (fn : Fn) (first cap : Array Value) (w : World), (Instr.makeFunc fn first cap).run Tryz.prog w = .ok (.func fn first cap) w := fun _ _ _ _ => rfl
  have HV : Hid ((look l k).getD (.int .i64 0) = .int .i64 q) := hv
  clear hv
  go_enter Tryz.func55, Tryz.ntmps55
  go_wp2_with (at_lookup; go_must (refine wpList_lookup_ok_at _ rfl _ _ 59 rfl 3 3 intKeyOk Tryz.underlying59 Tryz.underlying3 _ (Tryz.zeroIntV _) b rfl k rfl l ((h.kept (Keeps.alloc (fun _ => False) _ _) (fun h => h)).kept (Keeps.alloc (fun _ => False) _ _) (fun h => h)) ?_; rw [HV.out]))
  go_ret
  exact ⟨⟨_, rfl⟩, ((((Keeps.refl _ w).al _).al _).al _).al _⟩

set_option maxRecDepth 100000 in
set_option maxHeartbeats 400000 in
/-- 'm[key] = value' in the map of the pins, noted -/
theorem enter_pin (cb : Nat) (fs : List Value) (C : List Nat) (b : Nat) (k : Int) (l : List (Int × Value)) (q v : Int) (w : World) (hC : Chg w cb fs C) (h : MapAt (Value.int .i64) w b l) (hv : (look l k).getD (.int .i64 0) = .int .i64 q) (hb : b ∉ C) (hl : fs.length < 1000000000000) :
    Calls Tryz.prog 29 #[.pointer (some ⟨cb, 0, none⟩), .map (some b), .int .i64 k, .int .i64 v] w fun e w' => e = .returned (.tuple #[]) ∧
      ∃ fs' C', fs'.length = fs.length + 1 ∧ Chg w' cb fs' C' ∧ Keeps (fun k => k ∈ C ∨ k = b) w w' ∧ (∀ k ∈ C', k ∈ C ∨ w.heap.size ≤ k) ∧ MapAt (Value.int .i64) w' b (put l k (.int .i64 v)) := by
  have hlt := h.lt
  have HL : Hid (fs.length < 1000000000000) := hl
  have HP : Hid (b ∉ C) := hb
  have HV : Hid ((look l k).getD (.int .i64 0) = .int .i64 q) := hv
  clear hl hb hv
  go_enter Tryz.func29, Tryz.ntmps29
  go_wp2_with (first
    | (go_at_call 55; go_must (refine (putBack_pin b k l q _ h HV.out).mono ?_; rintro e w1 ⟨⟨cap, rfl⟩, hk1⟩))
    | (go_at_call 53; go_must (refine (undoBy_any cb fs C _ _ _ (hC.kept hk1 (fun _ _ h => h)) (by have := HL.out; omega)).mono ?_; rintro e w2 ⟨rfl, C1, hC1, hk2, hC1'⟩))
    | (at_mapUpdate; go_must (refine wpList_mapUpdate_at _ rfl _ _ _ 59 rfl 3 3 intKeyOk Tryz.underlying59 Tryz.underlying3 b rfl k rfl _ rfl l ((h.kept hk1 (fun h => h)).kept hk2 HP.out) ?_; intro w3 hm3 hk3 hz3)))
  go_end0
  have hkk : Keeps (fun k => k ∈ C ∨ k = b) w w3 := ((hk1.mono (T := fun k => k ∈ C ∨ k = b) (fun _ _ h => h.elim)).tr hk2 (fun _ h => .inl h)).tr hk3 (fun _ h => .inr h)
  refine ⟨rfl, _, ?_, C1, hC1.kept hk3 (fun k hk e => ?_), hkk, fun k hk => ?_, hm3⟩
  · simp
  · have e' : k = b := e
    subst e'
    rcases hC1' k hk with h1 | h1
    · exact HP.out h1
    · have := hk1.size; omega
  · rcases hC1' k hk with h1 | h1
    · exact .inl h1
    · have := hk1.size; right; omega

set_option maxRecDepth 100000 in
set_option maxHeartbeats 400000 in
theorem putBack_cop (b : Nat) (k : Int) (l : List (Int × Value)) (q : Cop) (w : World) (h : MapAt (Value.int .i64) w b l) (hv : (look l k).getD Cop.zero.val = q.val) :
    Calls Tryz.prog 97 #[.map (some b), .int .i64 k] w fun e w' => (∃ cap, e = .returned (.func (.func 130) #[] cap)) ∧ Keeps (fun _ => False) w w' := by
  have hmf : ∀ (fn : Fn) (first cap : Array Value) (w : World), (Instr.makeFunc fn first cap).run Tryz.prog w = .ok (.func fn first cap) w := fun _ _ _ _ => rfl
  obtain ⟨full, fr, to, hd, nx, sm, ct⟩ := q
  have HV : Hid ((look l k).getD Cop.zero.val = .agg #[.bool full, .int .i64 fr, .int .i64 to, .bool hd, .string nx, .int .u32 sm, .int .i64 ct]) := hv
  clear hv
  go_enter Tryz.func97, Tryz.ntmps97
  go_wp2_with (at_lookup; go_must (refine wpList_lookup_ok_at _ rfl _ _ 60 rfl 3 129 intKeyOk Tryz.underlying60 Tryz.underlying3 _ (Tryz.zeroCop _) b rfl k rfl l ((h.kept (Keeps.alloc (fun _ => False) _ _) (fun h => h)).kept (Keeps.alloc (fun _ => False) _ _) (fun h => h)) ?_; rw [HV.out]))
  go_ret
  exact ⟨⟨_, rfl⟩, ((((Keeps.refl _ w).al _).al _).al _).al _⟩

theorem enter_boxO {w w1 w2 : World} {cb : Nat} {fs : List Value} {C : List Nat} {o : Obj} (h : Chg w cb fs C) (hk1 : Keeps (fun _ => False) (w.alloc o) w1) (hk2 : Keeps (· ∈ C) w1 w2) : w2.heap[w.heap.size]? = some o := by
  have hn : w.heap.size ∉ C := fun h' => by have := h.lt _ h'; simp at this
  have h1 := (hk1.block w.heap.size (by simp) (fun h => h)).trans (heap_new w o)
  exact (hk2.block _ (Array.getElem?_eq_some_iff.1 h1).1 hn).trans h1

set_option maxRecDepth 100000 in
set_option maxHeartbeats 400000 in
/-- 'm[key] = value' in the map of the copyings, noted -/
theorem enter_cop (cb : Nat) (fs : List Value) (C : List Nat) (b : Nat) (k : Int) (l : List (Int × Value)) (q v : Cop) (w : World) (hC : Chg w cb fs C) (h : MapAt (Value.int .i64) w b l) (hv : (look l k).getD Cop.zero.val = q.val) (hb : b ∉ C) (hl : fs.length < 1000000000000) :
    Calls Tryz.prog 63 #[.pointer (some ⟨cb, 0, none⟩), .map (some b), .int .i64 k, v.val] w fun e w' => e = .returned (.tuple #[]) ∧
      ∃ fs' C', fs'.length = fs.length + 1 ∧ Chg w' cb fs' C' ∧ Keeps (fun k => k ∈ C ∨ k = b) w w' ∧ (∀ k ∈ C', k ∈ C ∨ w.heap.size ≤ k) ∧ MapAt (Value.int .i64) w' b (put l k v.val) := by
  have hlt := h.lt
  have HL := hid hl
  have HP := hid hb
  have HV := hid hv
  clear hl hb hv
  obtain ⟨full, fr, to, hd, nx, sm, ct⟩ := v
  simp only [Cop.val]
  go_enter Tryz.func63, Tryz.ntmps63
  go_wp2_with (first
    | (go_at_call 97; go_must (refine (putBack_cop b k l q _ (h.kept (Keeps.alloc (fun _ => False) _ _) (fun h => h)) HV.out).mono ?_; rintro e w1 ⟨⟨cap, rfl⟩, hk1⟩))
    | (go_at_call 53; go_must (refine (undoBy_any cb fs C _ _ _ (hC.kept ((Keeps.alloc (fun _ => False) _ _).tr hk1 (fun _ h => h)) (fun _ _ h => h)) (by have := HL.out; omega)).mono ?_; rintro e w2 ⟨rfl, C1, hC1, hk2, hC1'⟩; have hbx := enter_boxO hC hk1 hk2; have hx0 := cell_of_heap hbx 0; have hx1 := cell_of_heap hbx 1; have hx2 := cell_of_heap hbx 2; have hx3 := cell_of_heap hbx 3; have hx4 := cell_of_heap hbx 4; have hx5 := cell_of_heap hbx 5; have hx6 := cell_of_heap hbx 6; simp at hx0 hx1 hx2 hx3 hx4 hx5 hx6; clear hbx))
    | (at_mapUpdate; go_must (refine wpList_mapUpdate_at _ rfl _ _ _ 60 rfl 3 129 intKeyOk Tryz.underlying60 Tryz.underlying3 b rfl k rfl _ rfl l ((h.kept ((Keeps.alloc (fun _ => False) _ _).tr hk1 (fun _ h => h)) (fun h => h)).kept hk2 HP.out) ?_; intro w3 hm3 hk3 hz3)))
  go_end0
  have hkk : Keeps (fun k => k ∈ C ∨ k = b) w w3 := ((((Keeps.alloc (fun _ => False) _ _).tr hk1 (fun _ h => h)).mono (T := fun k => k ∈ C ∨ k = b) (fun _ _ h => h.elim)).tr hk2 (fun _ h => .inl h)).tr hk3 (fun _ h => .inr h)
  refine ⟨rfl, _, ?_, C1, hC1.kept hk3 (fun k hk e => ?_), hkk, fun k hk => ?_, hm3⟩
  · simp
  · have e' : k = b := e
    subst e'
    rcases hC1' k hk with h1 | h1
    · exact HP.out h1
    · have := hk1.size; simp at this; omega
  · rcases hC1' k hk with h1 | h1
    · exact .inl h1
    · have := hk1.size; simp at this; right; omega

set_option maxRecDepth 100000 in
set_option maxHeartbeats 400000 in
/-- 'delete(m, key)' in the map of the copyings, noted -/
theorem remove_cop (cb : Nat) (fs : List Value) (C : List Nat) (b : Nat) (k : Int) (l : List (Int × Value)) (q : Cop) (w : World) (hC : Chg w cb fs C) (h : MapAt (Value.int .i64) w b l) (hv : (look l k).getD Cop.zero.val = q.val) (hb : b ∉ C) (hl : fs.length < 1000000000000) :
    Calls Tryz.prog 67 #[.pointer (some ⟨cb, 0, none⟩), .map (some b), .int .i64 k] w fun e w' => e = .returned (.tuple #[]) ∧
      ∃ fs' C', fs'.length = fs.length + 1 ∧ Chg w' cb fs' C' ∧ Keeps (fun k => k ∈ C ∨ k = b) w w' ∧ (∀ k ∈ C', k ∈ C ∨ w.heap.size ≤ k) ∧ MapAt (Value.int .i64) w' b (del l k) := by
  have hlt := h.lt
  have HL : Hid (fs.length < 1000000000000) := hl
  have HP : Hid (b ∉ C) := hb
  have HV : Hid ((look l k).getD Cop.zero.val = q.val) := hv
  clear hl hb hv
  go_enter Tryz.func67, Tryz.ntmps67
  go_wp2_with (first
    | (go_at_call 97; go_must (refine (putBack_cop b k l q _ h HV.out).mono ?_; rintro e w1 ⟨⟨cap, rfl⟩, hk1⟩))
    | (go_at_call 53; go_must (refine (undoBy_any cb fs C _ _ _ (hC.kept hk1 (fun _ _ h => h)) (by have := HL.out; omega)).mono ?_; rintro e w2 ⟨rfl, C1, hC1, hk2, hC1'⟩))
    | (at_delete; go_must (refine wpList_delete_at _ rfl _ _ 60 3 rfl 129 intKeyOk Tryz.underlying60 Tryz.underlying3 b rfl k rfl l ((h.kept hk1 (fun h => h)).kept hk2 HP.out) ?_; intro w3 hm3 hk3 hz3)))
  go_end0
  have hkk : Keeps (fun k => k ∈ C ∨ k = b) w w3 := ((hk1.mono (T := fun k => k ∈ C ∨ k = b) (fun _ _ h => h.elim)).tr hk2 (fun _ h => .inl h)).tr hk3 (fun _ h => .inr h)
  refine ⟨rfl, _, ?_, C1, hC1.kept hk3 (fun k hk e => ?_), hkk, fun k hk => ?_, hm3⟩
  · simp
  · have e' : k = b := e
    subst e'
    rcases hC1' k hk with h1 | h1
    · exact HP.out h1
    · have := hk1.size; omega
  · rcases hC1' k hk with h1 | h1
    · exact .inl h1
    · have := hk1.size; right; omega

set_option maxRecDepth 100000 in
set_option maxHeartbeats 400000 in
theorem pin1_ok (cb eb : Nat) (w : World) (he : w.cell? ⟨eb, 0, none⟩ = some (.int .i64 0)) :
    CallsD Tryz.prog 25 #[.pointer (some ⟨cb, 0, none⟩), .pointer (some ⟨eb, 0, none⟩)] .returning w fun e u' w' => e = .returned (.tuple #[]) ∧ u' = .returning ∧ w' = w := by
  refine callsD_of_wpS Tryz.func25 rfl fun c₀ cs hu => ?_
  apply wpS_region
  simp [wpOpsS, go_sem, recoverD, hu, Tryz.ntmps25]
  refine (settle_ok cb eb w he).mono ?_
  rintro e w1 ⟨rfl, rfl⟩
  cases c₀
  simp_all [bodyPostS, results, Tryz.results25]

set_option maxRecDepth 100000 in
set_option maxHeartbeats 400000 in
theorem pin1_none (cb eb : Nat) (n : Int) (hn : 1 ≤ n ∧ n ≤ 9) (w : World) (hc : w.cell? ⟨cb, 0, none⟩ = some (.slice none 0 0)) (he : w.cell? ⟨eb, 0, none⟩ = some (.int .i64 n)) :
    CallsD Tryz.prog 25 #[.pointer (some ⟨cb, 0, none⟩), .pointer (some ⟨eb, 0, none⟩)] .returning w fun e u' w' => e = .returned (.tuple #[]) ∧ u' = .returning ∧ Keeps (fun _ => False) w w' := by
  refine callsD_of_wpS Tryz.func25 rfl fun c₀ cs hu => ?_
  apply wpS_region
  simp [wpOpsS, go_sem, recoverD, hu, Tryz.ntmps25]
  refine (settle_none cb eb n hn w hc he).mono ?_
  rintro e w1 ⟨rfl, hk⟩
  cases c₀
  simp_all [bodyPostS, results, Tryz.results25]

set_option maxRecDepth 100000 in
set_option maxHeartbeats 400000 in
theorem start1_ok (cb eb : Nat) (w : World) (he : w.cell? ⟨eb, 0, none⟩ = some (.int .i64 0)) :
    CallsD Tryz.prog 60 #[.pointer (some ⟨cb, 0, none⟩), .pointer (some ⟨eb, 0, none⟩)] .returning w fun e u' w' => e = .returned (.tuple #[]) ∧ u' = .returning ∧ w' = w := by
  refine callsD_of_wpS Tryz.func60 rfl fun c₀ cs hu => ?_
  apply wpS_region
  simp [wpOpsS, go_sem, recoverD, hu, Tryz.ntmps60]
  refine (settle_ok cb eb w he).mono ?_
  rintro e w1 ⟨rfl, rfl⟩
  cases c₀
  simp_all [bodyPostS, results, Tryz.results60]

set_option maxRecDepth 100000 in
set_option maxHeartbeats 400000 in
theorem start1_none (cb eb : Nat) (n : Int) (hn : 1 ≤ n ∧ n ≤ 9) (w : World) (hc : w.cell? ⟨cb, 0, none⟩ = some (.slice none 0 0)) (he : w.cell? ⟨eb, 0, none⟩ = some (.int .i64 n)) :
    CallsD Tryz.prog 60 #[.pointer (some ⟨cb, 0, none⟩), .pointer (some ⟨eb, 0, none⟩)] .returning w fun e u' w' => e = .returned (.tuple #[]) ∧ u' = .returning ∧ Keeps (fun _ => False) w w' := by
  refine callsD_of_wpS Tryz.func60 rfl fun c₀ cs hu => ?_
  apply wpS_region
  simp [wpOpsS, go_sem, recoverD, hu, Tryz.ntmps60]
  refine (settle_none cb eb n hn w hc he).mono ?_
  rintro e w1 ⟨rfl, hk⟩
  cases c₀
  simp_all [bodyPostS, results, Tryz.results60]

set_option maxRecDepth 100000 in
set_option maxHeartbeats 400000 in
theorem next1_ok (cb eb : Nat) (w : World) (he : w.cell? ⟨eb, 0, none⟩ = some (.int .i64 0)) :
    CallsD Tryz.prog 64 #[.pointer (some ⟨cb, 0, none⟩), .pointer (some ⟨eb, 0, none⟩)] .returning w fun e u' w' => e = .returned (.tuple #[]) ∧ u' = .returning ∧ w' = w := by
  refine callsD_of_wpS Tryz.func64 rfl fun c₀ cs hu => ?_
  apply wpS_region
  simp [wpOpsS, go_sem, recoverD, hu, Tryz.ntmps64]
  refine (settle_ok cb eb w he).mono ?_
  rintro e w1 ⟨rfl, rfl⟩
  cases c₀
  simp_all [bodyPostS, results, Tryz.results64]

set_option maxRecDepth 100000 in
set_option maxHeartbeats 400000 in
theorem next1_none (cb eb : Nat) (n : Int) (hn : 1 ≤ n ∧ n ≤ 9) (w : World) (hc : w.cell? ⟨cb, 0, none⟩ = some (.slice none 0 0)) (he : w.cell? ⟨eb, 0, none⟩ = some (.int .i64 n)) :
    CallsD Tryz.prog 64 #[.pointer (some ⟨cb, 0, none⟩), .pointer (some ⟨eb, 0, none⟩)] .returning w fun e u' w' => e = .returned (.tuple #[]) ∧ u' = .returning ∧ Keeps (fun _ => False) w w' := by
  refine callsD_of_wpS Tryz.func64 rfl fun c₀ cs hu => ?_
  apply wpS_region
  simp [wpOpsS, go_sem, recoverD, hu, Tryz.ntmps64]
  refine (settle_none cb eb n hn w hc he).mono ?_
  rintro e w1 ⟨rfl, hk⟩
  cases c₀
  simp_all [bodyPostS, results, Tryz.results64]

end Go.Proofs.YtpagenipflmlfaaGreatDoor

/- Pin, Unpin. -/

namespace Go.Proofs.YtpagenipflmlfaaGreatDoor

open Go.RowKit Go.Shelf

theorem eqMapP_some (b : Nat) (w : World) : (binOp BinOp.eql 59 (.map (some b)) (.map none)).run Tryz.prog w = .ok (.bool false) w := by kernel_rfl

theorem eqMapP_none (w : World) : (binOp BinOp.eql 59 (.map none) (.map none)).run Tryz.prog w = .ok (.bool true) w := by kernel_rfl

set_option maxRecDepth 100000 in
set_option maxHeartbeats 400000 in
theorem has_any (R : Rep) (s : Int) (w : World) (h : StoreAt w R) :
    Calls Tryz.prog 27 #[.pointer (some ⟨R.sb, 0, none⟩), .int .i64 s] w fun e w' => e = .returned (.bool (decide (R.floor ≤ s) && decide (s ≤ R.now))) ∧ w' = w := by
  have c0 : w.cell? ⟨R.sb, 0, none⟩ = some (.int .i64 R.now) := h.cell 0
  have c1 : w.cell? ⟨R.sb, 1, none⟩ = some (.int .i64 R.floor) := h.cell 1
  clear h
  by_cases h1 : R.floor ≤ s
  · have e1 : decide (R.floor ≤ s) = true := decide_eq_true h1
    go_enter Tryz.func27, Tryz.ntmps27
    go_wp2
    go_ret
    exact ⟨by simp [h1], rfl⟩
  · have e1 : decide (R.floor ≤ s) = false := decide_eq_false h1
    go_enter Tryz.func27, Tryz.ntmps27
    go_wp2
    go_ret
    exact ⟨by simp, rfl⟩

/-- Pins, copyings and the last copying's number are others; all else lies as it lay. -/
theorem StoreAt.side {w w' : World} {R : Rep} {S : Nat → Prop} (h : StoreAt w R) (pm cm : Option Nat) (pins : List (Int × Int)) (started : Int) (copyings : List (Int × Cop)) (hk : Keeps S w w')
    (hS : ∀ k ∈ R.wm.toList ++ R.works.flatMap (fun p => [p.2.blk, p.2.mb]) ++ R.fpPast, ¬ S k)
    (htop : w'.heap[R.sb]? = some (.cells (topCells { R with pm, pins, started, cm, copyings }) 65 (0, 0)))
    (hp : OptMap (Value.int .i64) w' pm (pins.map fun p => (p.1, .int .i64 p.2))) (hc : OptMap (Value.int .i64) w' cm (copyings.map fun p => (p.1, p.2.val))) (hn : (Rep.fp { R with pm, pins, started, cm, copyings }).Nodup) :
    StoreAt w' { R with pm, pins, started, cm, copyings } := by
  have hSw : ∀ k ∈ R.wm.toList, ¬ S k := fun k hk' => hS k (List.mem_append_left _ (List.mem_append_left _ hk'))
  have hSx : ∀ k ∈ R.works.flatMap (fun p => [p.2.blk, p.2.mb]), ¬ S k := fun k hk' => hS k (List.mem_append_left _ (List.mem_append_right _ hk'))
  have hSp : ∀ k ∈ R.fpPast, ¬ S k := fun k hk' => hS k (List.mem_append_right _ hk')
  refine ⟨htop, ⟨h.works.worksMap.kept hk (fun b hb => hSw b (by simp [hb])), fun p hp' => ?_, hp, hc⟩, h.past.kept hk (fun k hk' => hSp k hk'), hn⟩
  obtain ⟨h1, h2⟩ := h.works.worksEach p hp'
  have hm : ∀ k, k = p.2.blk ∨ k = p.2.mb → ¬ S k := fun k hk' => hSx k (List.mem_flatMap.2 ⟨p, hp', by simpa using hk'⟩)
  exact ⟨(hk.block _ (Array.getElem?_eq_some_iff.1 h1).1 (hm _ (.inl rfl))).trans h1, h2.kept hk (hm _ (.inr rfl))⟩

/-- the blocks that a store has beside its own and those of pins and copyings -/
theorem fp_split (R : Rep) : R.fp.Perm (R.sb :: (pcOf R.pm R.cm ++ (R.wm.toList ++ R.works.flatMap (fun p => [p.2.blk, p.2.mb]) ++ R.fpPast))) := by
  unfold Rep.fp Rep.fpWorks
  refine List.Perm.cons _ ?_
  simp only [List.append_assoc]
  refine (List.perm_append_comm_assoc _ _ _).trans ?_
  exact List.Perm.refl _

/-- what Pin and Unpin leave -/
def PinPost (R : Rep) (pins : List (Int × Int)) (w w' : World) : Prop :=
  ∃ pm, StoreAt w' { R with pm := pm, pins := pins } ∧ Keeps (· ∈ R.fp) w w' ∧ (pm = R.pm ∨ ∃ q, pm = some q ∧ w.heap.size ≤ q)

/-- the map of the pins is written -/
theorem StoreAt.pinned {w w' : World} {R : Rep} {C : List Nat} {b : Nat} {pins : List (Int × Int)} (h : StoreAt w R) (hpm : R.pm = some b) (hk : Keeps (fun k => k ∈ C ∨ k = b) w w') (hC : ∀ k ∈ C, k ∉ R.fp) (hm : MapAt (Value.int .i64) w' b (pins.map fun p => (p.1, .int .i64 p.2))) : StoreAt w' { R with pins := pins } := by
  have hnd := (fp_split R).nodup_iff.1 h.nodup
  have hb : b ∈ pcOf R.pm R.cm := by simp [pcOf, hpm]
  have hbf : b ∈ R.fp := (fp_split R).mem_iff.2 (List.mem_cons_of_mem _ (List.mem_append_left _ hb))
  have hsb : ¬ (R.sb ∈ C ∨ R.sb = b) := by
    rintro (hc | e)
    · exact hC _ hc (by simp [Rep.fp])
    · rw [List.nodup_cons] at hnd
      exact hnd.1 (e ▸ List.mem_append_left _ hb)
  have := h.side R.pm R.cm pins R.started R.copyings hk (fun k hk' => ?_) ((hk.block _ h.lt hsb).trans h.top) (by rw [hpm]; exact hm) (h.works.copyMap.kept hk (fun c hc => ?_)) h.nodup
  · exact this
  · rintro (hc | e)
    · exact hC k hc ((fp_split R).mem_iff.2 (List.mem_cons_of_mem _ (List.mem_append_right _ hk')))
    · subst e
      rw [List.nodup_cons, List.nodup_append] at hnd
      exact hnd.2.2.2 k hb k hk' rfl
  · have hcm : c ∈ pcOf R.pm R.cm := by simp [pcOf, hc]
    rintro (hc' | e)
    · exact hC c hc' ((fp_split R).mem_iff.2 (List.mem_cons_of_mem _ (List.mem_append_left _ hcm)))
    · rw [List.nodup_cons, List.nodup_append] at hnd
      have h3 := hnd.2.1
      unfold pcOf at h3
      rw [hpm, hc, e] at h3
      simp at h3

theorem fp_pm {R : Rep} (hpm : R.pm = none) (q : Nat) : (Rep.fp { R with pm := some q }).Perm (q :: R.fp) := by
  refine (fp_split _).trans (List.Perm.trans ?_ ((fp_split R).symm.cons _))
  simp only [pcOf, hpm, Option.toList_some, Option.toList_none, List.nil_append, List.cons_append]
  exact List.Perm.swap _ _ _

/-- .. or made -/
theorem StoreAt.pinsMade {w w' : World} {R : Rep} {C : List Nat} {q : Nat} (h : StoreAt w R) (hpm : R.pm = none) (hk : Keeps (fun k => k ∈ C ∨ k = R.sb) w w') (hC : ∀ k ∈ C, k ∉ R.fp) (hq : MapAt (Value.int .i64) w q ([] : List (Int × Value))) (hqC : q ∉ C) (hqf : q ∉ R.fp) (hb : w'.heap[R.sb]? = (w.setCell ⟨R.sb, 4, none⟩ (.map (some q))).heap[R.sb]?) : StoreAt w' { R with pm := some q } := by
  have hpins : R.pins = [] := by
    have := h.works.pinsMap
    rw [hpm] at this
    have h2 : (R.pins.map fun p => (p.1, Value.int .i64 p.2)) = [] := this
    simpa using h2
  have hnd := (fp_split R).nodup_iff.1 h.nodup
  have hnk : ∀ k ∈ R.fp, k ≠ R.sb → ¬ (k ∈ C ∨ k = R.sb) := fun k hk' hne => by
    rintro (hc | e)
    · exact hC k hc hk'
    · exact hne e
  have hne : ∀ k ∈ pcOf R.pm R.cm ++ (R.wm.toList ++ R.works.flatMap (fun p => [p.2.blk, p.2.mb]) ++ R.fpPast), k ≠ R.sb := fun k hk' e => by
    rw [List.nodup_cons] at hnd
    exact hnd.1 (e ▸ hk')
  have hmem : ∀ k ∈ pcOf R.pm R.cm ++ (R.wm.toList ++ R.works.flatMap (fun p => [p.2.blk, p.2.mb]) ++ R.fpPast), k ∈ R.fp := fun k hk' => (fp_split R).mem_iff.2 (List.mem_cons_of_mem _ hk')
  have := h.side (some q) R.cm R.pins R.started R.copyings hk (fun k hk' => hnk k (hmem k (List.mem_append_right _ hk')) (hne k (List.mem_append_right _ hk'))) ?_ ?_ (h.works.copyMap.kept hk (fun c hc => ?_)) ((fp_pm hpm q).nodup_iff.2 (List.nodup_cons.2 ⟨hqf, h.nodup⟩))
  · exact this
  · rw [hb]
    exact h.set (R' := { R with pm := some q }) (i := 4) (v := .map (some q)) rfl (by simp [topCells])
  · rw [hpins]
    exact MapAt.kept hq hk (by
      rintro (hc | e)
      · exact hqC hc
      · exact hqf (by rw [e]; simp [Rep.fp]))
  · have hcm : c ∈ pcOf R.pm R.cm := by simp [pcOf, hc]
    exact hnk c (hmem c (List.mem_append_left _ hcm)) (hne c (List.mem_append_left _ hcm))

set_option maxRecDepth 100000 in
set_option maxHeartbeats 400000 in
theorem pin_bad (R : Rep) (s : Int) (w : World) (h : StoreAt w R) (hs : (decide (R.floor ≤ s) && decide (s ≤ R.now)) = false) :
    Calls Tryz.prog 7 #[.pointer (some ⟨R.sb, 0, none⟩), .int .i64 s] w fun e w' => e = .returned (.int .i64 5) ∧ Keeps (fun _ => False) w w' := by
  have hmf : ∀ (fn : Fn) (first cap : Array Value) (w : World), (Instr.makeFunc fn first cap).run Tryz.prog w = .ok (.func fn first cap) w := fun _ _ _ _ => rfl
  have hh := has_any R s _ (h.kept (((Keeps.refl (fun _ => False) w).al (.cells #[.int .i64 0] 34)).al (.cells #[.slice none 0 0] 69)) (fun _ _ h => h))
  rw [hs] at hh
  have HH := hid hh
  clear hs h hh
  generalize R.sb = sb at *
  go_enter_defers Tryz.func7, Tryz.ntmps7
  go_wp2_with (go_at_call 27; go_must (refine (HH.out).mono ?_; rintro e w1 ⟨rfl, rfl⟩))
  refine leaves_cons (f := 25) (args := #[.pointer (some ⟨w.heap.size + 1, 0, none⟩), .pointer (some ⟨w.heap.size, 0, none⟩)]) (by simp) (by simp [go_sem]) ?_
  refine (pin1_none (w.heap.size + 1) w.heap.size 5 (by omega) _ ?_ ?_).mono ?_
  · simp [go_sem]
  · simp [go_sem]
  rintro e u' w'' ⟨rfl, rfl, hk⟩
  have hb : w''.cell? ⟨w.heap.size, 0, none⟩ = some (.int .i64 5) := hk.cell (p := ⟨w.heap.size, 0, none⟩) (by simp [go_sem]) (fun h => h)
  simp [Leaves, settle, results, Tryz.results7, go_sem, hb]
  exact (((Keeps.refl _ w).al _).al _).tr hk (fun _ h => h)

theorem pins_put (l : List (Int × Int)) (s c : Int) : put (l.map fun p => (p.1, Value.int .i64 p.2)) s (.int .i64 c) = (put l s c).map fun p => (p.1, .int .i64 p.2) := put_map (fun z : Int => Value.int .i64 z) l s c

set_option maxRecDepth 100000 in
set_option maxHeartbeats 1000000 in
theorem pin_some (R : Rep) (s : Int) (w : World) (h : StoreAt w R) (b : Nat) (hpm : R.pm = some b) (hs : (decide (R.floor ≤ s) && decide (s ≤ R.now)) = true) (hc1 : 0 ≤ (look R.pins s).getD 0) (hc2 : (look R.pins s).getD 0 ≤ 1000000000000000) :
    Calls Tryz.prog 7 #[.pointer (some ⟨R.sb, 0, none⟩), .int .i64 s] w fun e w' => e = .returned (.int .i64 0) ∧ PinPost R (put R.pins s ((look R.pins s).getD 0 + 1)) w w' := by
  have hmf : ∀ (fn : Fn) (first cap : Array Value) (w : World), (Instr.makeFunc fn first cap).run Tryz.prog w = .ok (.func fn first cap) w := fun _ _ _ _ => rfl
  have hem := eqMapP_some
  have hk0 : Keeps (fun _ => False) w ((w.alloc (.cells #[.int .i64 0] 34)).alloc (.cells #[.slice none 0 0] 69)) := ((Keeps.refl (fun _ => False) w).al _).al _
  have hW := h.kept hk0 (fun _ _ h => h)
  have hh := has_any R s _ hW
  rw [hs] at hh
  have HH := hid hh
  have hbf : b ∈ R.fp := (fp_split R).mem_iff.2 (List.mem_cons_of_mem _ (List.mem_append_left _ (by simp [pcOf, hpm])))
  have hbl := fp_lt h _ hbf
  have hlt := h.lt
  have hnb : R.sb ≠ b := fun e => by
    have hnd := (fp_split R).nodup_iff.1 h.nodup
    rw [List.nodup_cons] at hnd
    exact hnd.1 (e ▸ List.mem_append_left _ (by simp [pcOf, hpm]))
  have c4 : w.cell? ⟨R.sb, 4, none⟩ = some (.map (some b)) := (h.cell 4).trans (by rw [← hpm]; rfl)
  have hM : MapAt (Value.int .i64) ((w.alloc (.cells #[.int .i64 0] 34)).alloc (.cells #[.slice none 0 0] 69)) b (R.pins.map fun p => (p.1, .int .i64 p.2)) := by have := hW.works.pinsMap; rw [hpm] at this; exact this
  obtain ⟨c, hc⟩ : ∃ c, (look R.pins s).getD 0 = c := ⟨_, rfl⟩
  rw [hc] at hc1 hc2
  have HC := hid hc
  have hlk0 : (look (R.pins.map fun p => (p.1, Value.int .i64 p.2)) s).getD (.int .i64 0) = .int .i64 c := by
    rw [look_map (fun z : Int => Value.int .i64 z), ← hc]
    cases look R.pins s <;> rfl
  have hlk := (hM.kept (Keeps.drew (fun _ => False) _) (fun h => h)).lookup (P := Tryz.prog) (t := 59) intKeyOk Tryz.underlying59 Tryz.underlying3 (Tryz.zeroIntV _) s false
  simp only [Bool.false_eq_true, if_false, hlk0] at hlk
  have HWR := hid (show IntKind.i64.wrap (c + 1) = c + 1 from IntWalk.i64_in _ ⟨by omega, by omega⟩)
  have hE := enter_pin (w.heap.size + 1) [] [w.heap.size + 1] b s _ c (IntKind.i64.wrap (c + 1)) _ ((chg_new w (.cells #[.int .i64 0] 34)).kept (Keeps.drew (fun _ => False) _) (fun _ _ h => h)) (hM.kept (Keeps.drew (fun _ => False) _) (fun h => h)) hlk0 (by simp; omega) (by simp)
  have HE := hid hE
  have HST := hid h
  have HPM := hid hpm
  have HW := hid hW
  have HK0 := hid hk0
  clear hs h hh hM hpm hE hlk0 hW hc hk0
  go_enter_defers Tryz.func7, Tryz.ntmps7
  go_wp2_with (go_at_call 27; go_must (refine (HH.out).mono ?_; rintro e w1 ⟨rfl, rfl⟩))
  go_region_held3 (fun W => W.cell? ⟨R.sb, 4, none⟩ = some (.map (some b))) (go_keep) (first | (go_at_call 29; refine (HE.out).mono ?_; rintro e w2 ⟨rfl, fs2, C2, hf2, hC2, hk2, hC2', hm2⟩; rw [HWR.out] at hm2; have q4 := hk2.cell (p := ⟨R.sb, 4, none⟩) ((((Keeps.refl (fun _ => False) w).al _).al _).dr.cell c4 (fun h => h)) (by rintro (e | e); ((simp at e); omega); exact hnb e)))
  have hE0 : w2.heap[w.heap.size]? = some (.cells #[.int .i64 0] 34 (0, 0)) := by
    rw [hk2.block w.heap.size (by simp [World.drew]; omega) (by rintro (hc | hc); (simp at hc); omega)]
    exact (Below.heap_alloc _ _ _ (by simp)).trans (heap_new w _)
  have y0 : w2.cell? ⟨w.heap.size, 0, none⟩ = some (.int .i64 0) := cell_of_heap hE0 0
  have y1 : w2.frozen? ⟨w.heap.size, 0, none⟩ = false := frozen_of_heap hE0 0
  have HE0 := hid hE0
  have HM2 := hid hm2
  have HK2 := hid hk2
  clear hE0 hm2 hk2 hlk
  go_wp2
  refine leaves_cons (f := 25) (args := #[.pointer (some ⟨w.heap.size + 1, 0, none⟩), .pointer (some ⟨w.heap.size, 0, none⟩)]) (by simp) (by simp [go_sem]) ?_
  have hE1 := heap_setCell_same (i := 0) HE0.out (.int .i64 0)
  refine (pin1_ok (w.heap.size + 1) w.heap.size _ ?_).mono ?_
  · exact cell_of_heap hE1 0
  rintro e u' w'' ⟨rfl, rfl, rfl⟩
  have hpost : PinPost R (put R.pins s ((look R.pins s).getD 0 + 1)) w (w2.setCell ⟨w.heap.size, 0, none⟩ (.int .i64 0)) := by
    have hm := HM2.out
    rw [pins_put] at hm
    have s1 := (HW.out.kept (Keeps.drew (fun _ => False) _) (fun _ _ h => h)).pinned HPM.out HK2.out (fun k hk hf => by have := fp_lt HST.out k hf; simp at hk; omega) hm
    rw [HC.out]
    refine ⟨R.pm, s1.kept (Keeps.setCell _ _ _) (fun k hk e => ?_), ?_, .inl rfl⟩
    · have e' : k = w.heap.size := e
      have hk' : k ∈ R.fp := hk
      have := fp_lt HST.out k hk'
      omega
    · refine (((HK0.out.dr).mono (fun _ _ h => h.elim)).trans HK2.out (fun k hk h => ?_)).st (.inl (Nat.le_refl _)) _
      rcases h with h | h
      · simp at h; omega
      · rw [h]; exact hbf
  have hb := cell_of_heap hE1 0
  generalize w2.setCell ⟨w.heap.size, 0, none⟩ (.int .i64 0) = W3 at hpost hb
  simp at hb
  simp [Leaves, settle, results, Tryz.results7, go_sem, hb]
  exact hpost

end Go.Proofs.YtpagenipflmlfaaGreatDoor

/- A copying: judge. -/

namespace Go.Proofs.YtpagenipflmlfaaGreatDoor

open Go.RowKit Go.Shelf

attribute [local go_sem] Oper.semAt_some

/-- why a copying can't be started -/
def judgeI (ht hf : Bool) (n tl : Nat) (x : Cop) : Int :=
  if ht = false ∨ x.full = false ∧ hf = false then 5 else if fitB x.full x.from' x.to = false then 6 else if 4 ≤ n ∨ 1000 < tl then 3 else 0

set_option maxRecDepth 100000 in
set_option maxHeartbeats 2000000 in
theorem judge2_any (R : Rep) (x : Cop) (w : World) (h : StoreAt w R) (g : Good R) (hr : Rises R.keys) (hl : R.keys.length ≤ 200000000000) (hc4 : R.copyings.length ≤ 4) :
    Calls Tryz.prog 61 #[.pointer (some ⟨R.sb, 0, none⟩), x.val] w fun e w' => e = .returned (.int .i64 (judgeI (decide (R.floor ≤ x.to) && decide (x.to ≤ R.now)) (decide (R.floor ≤ x.from') && decide (x.from' ≤ R.now)) R.copyings.length (tellL R.keys (versOf R.hist) x).length x)) ∧ Keeps (fun _ => False) w w' := by
  obtain ⟨xf, xa, xt, xh, xn, xs, xc⟩ := x
  unfold judgeI
  simp only
  have HT := hid (fun W (hW : Keeps (fun _ => False) w W) => has_any R xt W (h.kept hW (fun _ _ h => h)))
  have HF := hid (fun W (hW : Keeps (fun _ => False) w W) => has_any R xa W (h.kept hW (fun _ _ h => h)))
  have HTT := hid (fun W (hW : Keeps (fun _ => False) w W) => toTell_any R ⟨xf, xa, xt, xh, xn, xs, xc⟩ 1001 W (h.kept hW (fun _ _ h => h)) g hr hl (by omega))
  have HSF := hid (fun W => statesFit_any xf xa xt W)
  have HLN := hid (fun W (hW : Keeps (fun _ => False) w W) => ((h.kept hW (fun _ _ h => h)).works.copyMap).length (P := Tryz.prog) Tryz.underlying60 3)
  have HC6 := hid (fun W (hW : Keeps (fun _ => False) w W) => (h.kept hW (fun _ _ h => h)).cell 6)
  generalize (decide (R.floor ≤ xt) && decide (xt ≤ R.now)) = ht at *
  generalize (decide (R.floor ≤ xa) && decide (xa ≤ R.now)) = hf at *
  generalize fitB xf xa xt = fi at *
  generalize tellL R.keys (versOf R.hist) ⟨xf, xa, xt, xh, xn, xs, xc⟩ = tl at *
  have hcl : (R.copyings.map fun p => (p.1, p.2.val)).length = R.copyings.length := List.length_map ..
  rw [hcl] at HLN
  have hsb : R.sb < w.heap.size := h.lt
  generalize R.copyings.length = nc at *
  simp only [Cop.val] at HTT ⊢
  obtain ⟨w1, hw1⟩ : ∃ w1, w1 = w.alloc (.cells #[.bool xf, .int .i64 xa, .int .i64 xt, .bool xh, .string xn, .int .u32 xs, .int .i64 xc] 129) := ⟨_, rfl⟩
  have k1 : Keeps (fun _ => False) w w1 := by rw [hw1]; exact Keeps.alloc _ _ _
  have HX1 : Hid (w1.heap[w.heap.size]? = some (.cells #[.bool xf, .int .i64 xa, .int .i64 xt, .bool xh, .string xn, .int .u32 xs, .int .i64 xc] 129 (0, 0))) := by show _ = _; rw [hw1]; exact heap_new w _
  have HK1 := hid k1
  have HW1 := hid hw1
  have x0 := cell_of_heap HX1.out 0
  have x1 := cell_of_heap HX1.out 1
  have x2 := cell_of_heap HX1.out 2
  have x3 := cell_of_heap HX1.out 3
  have x4 := cell_of_heap HX1.out 4
  have x5 := cell_of_heap HX1.out 5
  have x6 := cell_of_heap HX1.out 6
  simp at x0 x1 x2 x3 x4 x5 x6
  have hnot : ∀ (x : Bool) (w : World), (Op.unary .not (.bool x)).run Tryz.prog w = .ok (.bool (!x)) w := fun _ _ => rfl
  have c6 : w1.cell? ⟨R.sb, 6, none⟩ = some (.map R.cm) := (HC6.out _ k1)
  have hln := HLN.out _ k1
  have hlnd := HLN.out _ k1.dr
  clear h g hr hl k1 hw1 hcl HC6 HLN
  by_cases h5 : ht = false ∨ xf = false ∧ hf = false
  · rw [if_pos h5]
    cases ht with
    | false =>
      clear h5
      go_enter Tryz.func61, Tryz.ntmps61
      go_wp2_with fail
      rw [← HW1.out]
      refine (HT.out _ HK1.out).mono ?_
      rintro e w2 ⟨rfl, rfl⟩
      go_wp2
      go_ret
      exact ⟨rfl, HK1.out⟩
    | true =>
      have h6 := h5.resolve_left (fun h => by cases h)
      obtain ⟨rfl, rfl⟩ := h6
      clear h5
      go_enter Tryz.func61, Tryz.ntmps61
      go_wp2_with fail
      rw [← HW1.out]
      refine (HT.out _ HK1.out).mono ?_
      rintro e w2 ⟨rfl, rfl⟩
      go_wp2_with fail
      refine (HF.out _ HK1.out).mono ?_
      rintro e w2 ⟨rfl, rfl⟩
      go_wp2
      go_ret
      exact ⟨rfl, HK1.out⟩
  · rw [if_neg h5]
    have ht1 : ht = true := by cases ht with | true => rfl | false => exact absurd (.inl rfl) h5
    subst ht1
    have hff : xf = true ∨ xf = false ∧ hf = true := by
      cases xf with
      | true => exact .inl rfl
      | false => cases hf with
        | true => exact .inr ⟨rfl, rfl⟩
        | false => exact absurd (.inr ⟨rfl, rfl⟩) h5
    clear h5
    obtain ⟨res, hres⟩ : ∃ res : Int, res = (if fi = false then 6 else if 4 ≤ nc ∨ 1000 < tl.length then 3 else 0) := ⟨_, rfl⟩
    rw [← hres]
    have HR := hid hres
    clear hres
    rcases hff with rfl | ⟨rfl, rfl⟩
    · go_enter Tryz.func61, Tryz.ntmps61
      go_wp2_with fail
      rw [← HW1.out]
      refine (HT.out _ HK1.out).mono ?_
      rintro e w2 ⟨rfl, rfl⟩
      go_wp2_with fail
      refine (HSF.out _).mono ?_
      rintro e w2 ⟨rfl, rfl⟩
      cases fi with
      | false =>
        go_wp2
        go_ret
        exact ⟨by rw [HR.out]; rfl, HK1.out⟩
      | true =>
        by_cases h4 : 4 ≤ nc
        · have e4 : decide ((4 : Int) ≤ (nc : Nat)) = true := decide_eq_true (by omega)
          have hr3 : Hid (res = 3) := by show _ = _; rw [HR.out, if_neg (by simp), if_pos (.inl h4)]
          go_wp2
          go_ret
          exact ⟨by rw [hr3.out]; rfl, HK1.out⟩
        · have e4 : decide ((4 : Int) ≤ (nc : Nat)) = false := decide_eq_false (by omega)
          have hlt : Hid ((tl.take 1001).length = min 1001 tl.length) := List.length_take
          by_cases ht : 1000 < tl.length
          · have hr3 : Hid (res = 3) := by show _ = _; rw [HR.out, if_neg (by simp), if_pos (.inr ht)]
            have HTL : Hid ((tl.take 1001).length = 1001) := by show _ = _; rw [hlt.out]; omega
            clear ht h4
            go_wp2_with fail
            refine (HTT.out _ HK1.out).mono ?_
            rintro e w3 ⟨v3, rfl, hM⟩
            obtain ⟨ob, cb, rfl, -, -⟩ := hM.row.form
            have HM := hid hM
            clear hM
            rw [HTL.out]
            go_wp2
            go_ret
            exact ⟨by rw [hr3.out]; rfl, HK1.out.tr HM.out.keep (fun _ h => h)⟩
          · have hr3 : Hid (res = 0) := by show _ = _; rw [HR.out, if_neg (by simp), if_neg (by omega)]
            obtain ⟨n, hn⟩ : ∃ n, n = (tl.take 1001).length := ⟨_, rfl⟩
            have hnI : decide ((1000 : Int) < (n : Nat)) = false := decide_eq_false (by rw [hn, hlt.out]; omega)
            have hnN : decide (1000 < n) = false := decide_eq_false (by rw [hn, hlt.out]; omega)
            have HN := hid hn
            clear ht h4 hn
            go_wp2_with fail
            refine (HTT.out _ HK1.out).mono ?_
            rintro e w3 ⟨v3, rfl, hM⟩
            obtain ⟨ob, cb, rfl, -, -⟩ := hM.row.form
            have HM := hid hM
            clear hM
            rw [← HN.out]
            go_wp2
            go_ret
            exact ⟨by rw [hr3.out]; rfl, HK1.out.tr HM.out.keep (fun _ h => h)⟩
    · go_enter Tryz.func61, Tryz.ntmps61
      go_wp2_with fail
      rw [← HW1.out]
      refine (HT.out _ HK1.out).mono ?_
      rintro e w2 ⟨rfl, rfl⟩
      go_wp2_with fail
      refine (HF.out _ HK1.out).mono ?_
      rintro e w2 ⟨rfl, rfl⟩
      go_wp2_with fail
      refine (HSF.out _).mono ?_
      rintro e w2 ⟨rfl, rfl⟩
      cases fi with
      | false =>
        go_wp2
        go_ret
        exact ⟨by rw [HR.out]; rfl, HK1.out⟩
      | true =>
        by_cases h4 : 4 ≤ nc
        · have e4 : decide ((4 : Int) ≤ (nc : Nat)) = true := decide_eq_true (by omega)
          have hr3 : Hid (res = 3) := by show _ = _; rw [HR.out, if_neg (by simp), if_pos (.inl h4)]
          go_wp2
          go_ret
          exact ⟨by rw [hr3.out]; rfl, HK1.out⟩
        · have e4 : decide ((4 : Int) ≤ (nc : Nat)) = false := decide_eq_false (by omega)
          have hlt : Hid ((tl.take 1001).length = min 1001 tl.length) := List.length_take
          by_cases ht : 1000 < tl.length
          · have hr3 : Hid (res = 3) := by show _ = _; rw [HR.out, if_neg (by simp), if_pos (.inr ht)]
            have HTL : Hid ((tl.take 1001).length = 1001) := by show _ = _; rw [hlt.out]; omega
            clear ht h4
            go_wp2_with fail
            refine (HTT.out _ HK1.out).mono ?_
            rintro e w3 ⟨v3, rfl, hM⟩
            obtain ⟨ob, cb, rfl, -, -⟩ := hM.row.form
            have HM := hid hM
            clear hM
            rw [HTL.out]
            go_wp2
            go_ret
            exact ⟨by rw [hr3.out]; rfl, HK1.out.tr HM.out.keep (fun _ h => h)⟩
          · have hr3 : Hid (res = 0) := by show _ = _; rw [HR.out, if_neg (by simp), if_neg (by omega)]
            obtain ⟨n, hn⟩ : ∃ n, n = (tl.take 1001).length := ⟨_, rfl⟩
            have hnI : decide ((1000 : Int) < (n : Nat)) = false := decide_eq_false (by rw [hn, hlt.out]; omega)
            have hnN : decide (1000 < n) = false := decide_eq_false (by rw [hn, hlt.out]; omega)
            have HN := hid hn
            clear ht h4 hn
            go_wp2_with fail
            refine (HTT.out _ HK1.out).mono ?_
            rintro e w3 ⟨v3, rfl, hM⟩
            obtain ⟨ob, cb, rfl, -, -⟩ := hM.row.form
            have HM := hid hM
            clear hM
            rw [← HN.out]
            go_wp2
            go_ret
            exact ⟨by rw [hr3.out]; rfl, HK1.out.tr HM.out.keep (fun _ h => h)⟩

end Go.Proofs.YtpagenipflmlfaaGreatDoor
