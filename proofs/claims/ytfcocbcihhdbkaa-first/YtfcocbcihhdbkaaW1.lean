/- What one call does to a store, told by the steps that take it back: undoBy, assign, putBack, enter, remove. -/
import Derived.Test.YtfcocbcihhdbkaaW0
namespace Go.Proofs.Ytfcocbcihhdbkaa
open Go.RowKit

theorem Try.infoFn : (Try.prog.info? 1).map (fun i => (i.zero, i.size, i.bytes)) = some (some .nilFunc, 1, 8) := by kernel_rfl

/-- Block cb holds the list fs of steps; C: the blocks that it lies in. -/
def Chg (w : World) (cb : Nat) (fs : List Value) (C : List Nat) : Prop :=
  ∃ v, w.heap[cb]? = some (.cells #[v] 56 (0, 0)) ∧ Row w 1 1 v fs.length fs ∧ v.ownBlock ≠ some cb ∧ C = cb :: v.ownBlock.toList

theorem Chg.kept {w w' : World} {cb : Nat} {fs : List Value} {C : List Nat} {S : Nat → Prop} (h : Chg w cb fs C) (hk : Keeps S w w') (hS : ∀ k, k ∈ C → ¬ S k) : Chg w' cb fs C := by
  obtain ⟨v, hb, hr, hne, rfl⟩ := h
  refine ⟨v, ?_, hr.kept hk (fun g hg => hS g (by simp [hg])), hne, rfl⟩
  rw [hk.block cb (Array.getElem?_eq_some_iff.1 hb).1 (hS cb (by simp))]
  exact hb

theorem Chg.lt {w : World} {cb : Nat} {fs : List Value} {C : List Nat} (h : Chg w cb fs C) : ∀ k ∈ C, k < w.heap.size := by
  obtain ⟨v, hb, hr, hne, rfl⟩ := h
  intro k hk
  rcases List.mem_cons.1 hk with rfl | hk
  · exact (Array.getElem?_eq_some_iff.1 hb).1
  · exact hr.lt (by simpa using hk)

theorem undoBy_cell {w w1 : World} {cb : Nat} {v : Value} {o : Obj} (hlt : cb < w.heap.size) (hb : Hid (w.heap[cb]? = some (.cells #[v] 56 (0, 0)))) (hne : Hid (v.ownBlock ≠ some cb)) (hg : (w.alloc o).grownBy w1 v.ownBlock) :
    w1.cell? ⟨cb, 0, none⟩ = some v ∧ w1.frozen? ⟨cb, 0, none⟩ = false ∧ w.heap.size + 1 ≤ w1.heap.size := by
  have h1 : w1.heap[cb]? = some (.cells #[v] 56 (0, 0)) := by
    rw [hg.block cb (by simp; omega) (fun e => hne.out e.symm), Below.heap_alloc _ _ _ hlt]
    exact hb.out
  exact ⟨by simp [World.cell?, h1], by simp [World.frozen?, h1], by simpa using hg.size⟩

set_option maxRecDepth 100000 in
set_option maxHeartbeats 400000 in
theorem undoBy_any (cb : Nat) (fs : List Value) (C : List Nat) (fn : Fn) (cap : Array Value) (w : World) (h : Chg w cb fs C) (hl : fs.length < 1000000000000) :
    Calls Try.prog 42 #[.pointer (some ⟨cb, 0, none⟩), .func fn #[] cap] w fun e w' => e = .returned (.tuple #[]) ∧
      ∃ C', Chg w' cb (fs ++ [.func fn #[] cap]) C' ∧ Keeps (· ∈ C) w w' ∧ ∀ k ∈ C', k ∈ C ∨ w.heap.size ≤ k := by
  obtain ⟨v, hb, hr, hne, rfl⟩ := h
  have hc : w.cell? ⟨cb, 0, none⟩ = some v := by simp [World.cell?, hb]
  have hfz : w.frozen? ⟨cb, 0, none⟩ = false := by simp [World.frozen?, hb]
  have hlt : cb < w.heap.size := (Array.getElem?_eq_some_iff.1 hb).1
  obtain ⟨i0, hi, hz0, hz1, hz2⟩ := info_parts Try.infoFn
  have HB : Hid (w.heap[cb]? = some (.cells #[v] 56 (0, 0))) := hb
  have HN : Hid (v.ownBlock ≠ some cb) := hne
  have HL : Hid (fs.length < 1000000000000) := hl
  clear hb hne hl
  go_enter Try.func42, Try.ntmps42
  go_wp2_with (first | (at_builtin; go_must (refine wpList_append_row _ rfl _ _ 54 rfl 1 i0 .nilFunc 1 8 Try.underlying54 hi hz0 hz1 hz2 rfl v fs.length fs rfl (hr.kept (Keeps.alloc (fun _ => False) _ _) (fun _ _ h => h)) ⟨w.heap.size, 0, none⟩ 1 1 [.func fn #[] cap] rfl rfl (cell_one_new _ _ _) (by simp [Value.oneCell']) (by have := HL.out; unfold maxLen; omega) (by have := HL.out; omega) ?_; intro v' w1 hown' hgrow _ hat; obtain ⟨g', cap', rfl⟩ := hown'.succ; obtain ⟨hc1, hf1, hz1⟩ := undoBy_cell hlt HB HN hgrow)) | fail)
  go_end0
  have hk1 : Keeps (· ∈ cb :: v.ownBlock.toList) w w1 := (Keeps.alloc _ w _).trans (Keeps.grown hgrow) (fun k _ hk => by simp [hk.symm])
  have hb1 : w1.heap[cb]? = some (.cells #[v] 56 (0, 0)) := by
    rw [hgrow.block cb (by simp; omega) (fun e => HN.out e.symm), Below.heap_alloc _ _ _ hlt]
    exact HB.out
  have hne' : g' ≠ cb := by
    rintro rfl
    rcases hat with h | h
    · exact HN.out h.symm
    · simp [Value.ownBlock] at h; omega
  refine ⟨rfl, _, ⟨_, heap_setCell_same hb1 _, ?_, ?_, rfl⟩, hk1.trans (Keeps.setCell _ _ _) (fun k _ hk => by simp at hk; simp [hk]), ?_⟩
  · have := hown'.kept (Keeps.setCell w1 ⟨cb, 0, none⟩ (.slice (some ⟨g', 0, none⟩) (fs.length + 1) cap')) (fun g hg => by simp [Value.ownBlock] at hg; subst hg; exact hne')
    simpa using this
  · simpa [Value.ownBlock] using hne'
  · intro k hk
    simp [Value.ownBlock] at hk
    rcases hk with rfl | rfl
    · simp
    · rcases hat with h | h
      · left; rw [← h]; simp [Value.ownBlock]
      · right; simp [Value.ownBlock] at h; omega


theorem assign_cells {w w1 : World} {cb : Nat} {fs : List Value} {C : List Nat} {pb po : Nat} {u v x : Value} {t t' : TypeId} (h : Chg w cb fs C) (hk : Keeps (· ∈ C) ((w.alloc (.cells #[v] t)).alloc (.cells #[x] t')) w1)
    (hc : w.cell? ⟨pb, po, none⟩ = some u) (hf : w.frozen? ⟨pb, po, none⟩ = false) (hp : pb ∉ C) :
    w1.cell? ⟨pb, po, none⟩ = some u ∧ w1.frozen? ⟨pb, po, none⟩ = false ∧ w1.cell? ⟨w.heap.size, 0, none⟩ = some v := by
  have hlt : pb < w.heap.size := World.block_lt_of_cell? _ _ hc
  refine ⟨hk.cell (p := ⟨pb, po, none⟩) (by rw [World.cell?_alloc_past _ _ _ (by simp; omega), World.cell?_alloc_past _ _ _ hlt]; exact hc) hp, ?_, ?_⟩
  · rw [hk.frozen (p := ⟨pb, po, none⟩) (by simp; omega) hp, World.frozen?_alloc_past _ _ _ (by simp; omega), World.frozen?_alloc_past _ _ _ hlt]
    exact hf
  · refine hk.cell (p := ⟨w.heap.size, 0, none⟩) (by rw [World.cell?_alloc_past _ _ _ (by simp), World.cell?_alloc_at _ _ _ _ rfl]; rfl) (fun h' => ?_)
    have := h.lt _ h'
    simp at this

theorem assign_end {w w1 : World} {C : List Nat} {pb : Nat} {v x : Value} {t t' : TypeId} (hk : Keeps (· ∈ C) ((w.alloc (.cells #[v] t)).alloc (.cells #[x] t')) w1)
    (hlt : pb < w.heap.size) (hp : pb ∉ C) (u : Value) (po : Nat) :
    Keeps (fun k => k ∈ C ∨ k = pb) w (w1.setCell ⟨pb, po, none⟩ u) ∧ (w1.setCell ⟨pb, po, none⟩ u).heap[pb]? = (w.setCell ⟨pb, po, none⟩ u).heap[pb]? := by
  have h1 : Keeps (· ∈ C) w w1 := ((Keeps.alloc _ w _).trans (Keeps.alloc (fun _ => False) _ _) (fun _ _ h => h.elim)).trans hk (fun _ _ h => h)
  refine ⟨(h1.mono (fun _ _ h => .inl h)).trans (Keeps.setCell _ _ _) (fun k _ hk => .inr hk), ?_⟩
  simp only [World.setCell, Array.getElem?_modify, h1.block pb hlt hp]

set_option maxRecDepth 100000 in
set_option maxHeartbeats 400000 in
theorem assign_int (cb : Nat) (fs : List Value) (C : List Nat) (pb po : Nat) (old new : Int) (w : World) (h : Chg w cb fs C) (hc : w.cell? ⟨pb, po, none⟩ = some (.int .i64 old)) (hfz : w.frozen? ⟨pb, po, none⟩ = false) (hp : pb ∉ C) (hl : fs.length < 1000000000000) :
    Calls Try.prog 24 #[.pointer (some ⟨cb, 0, none⟩), .pointer (some ⟨pb, po, none⟩), .int .i64 new] w fun e w' => e = .returned (.tuple #[]) ∧
      ∃ fs' C', fs'.length = fs.length + 1 ∧ Chg w' cb fs' C' ∧ Keeps (fun k => k ∈ C ∨ k = pb) w w' ∧ (∀ k ∈ C', k ∈ C ∨ w.heap.size ≤ k) ∧ w'.heap[pb]? = (w.setCell ⟨pb, po, none⟩ (.int .i64 new)).heap[pb]? := by
  have hlt : pb < w.heap.size := World.block_lt_of_cell? _ _ hc
  have HL : Hid (fs.length < 1000000000000) := hl
  have HP : Hid (pb ∉ C) := hp
  clear hl hp
  have hmf : ∀ (fn : Fn) (first cap : Array Value) (w : World), (Instr.makeFunc fn first cap).run Try.prog w = .ok (.func fn first cap) w := fun _ _ _ _ => rfl
  go_enter Try.func24, Try.ntmps24
  go_wp2_with (go_at_call 42; go_must (refine (undoBy_any cb fs C _ _ _ (h.kept ((Keeps.alloc (fun _ => False) w _).trans (Keeps.alloc (fun _ => False) _ _) (fun _ _ h => h)) (fun _ _ h => h)) (by have := HL.out; omega)).mono ?_; rintro e w1 ⟨rfl, C1, hC1, hk1, hC1'⟩; obtain ⟨hcs, hfs, hbx⟩ := assign_cells h hk1 hc hfz HP.out))
  go_end0
  obtain ⟨hk2, hb2⟩ := assign_end hk1 hlt HP.out (.int .i64 new) po
  refine ⟨rfl, _, C1, ?_, hC1.kept (Keeps.setCell _ _ _) (fun k hk e => ?_), hk2, fun k hk => ?_, hb2⟩
  · simp
  · have e' : k = pb := e
    subst e'
    rcases hC1' k hk with h1 | h1
    · exact HP.out h1
    · simp at h1; omega
  · rcases hC1' k hk with h1 | h1
    · exact .inl h1
    · simp at h1; right; omega

set_option maxRecDepth 100000 in
set_option maxHeartbeats 400000 in
theorem assign_map (cb : Nat) (fs : List Value) (C : List Nat) (pb po : Nat) (old new : Option Nat) (w : World) (h : Chg w cb fs C) (hc : w.cell? ⟨pb, po, none⟩ = some (.map old)) (hfz : w.frozen? ⟨pb, po, none⟩ = false) (hp : pb ∉ C) (hl : fs.length < 1000000000000) :
    Calls Try.prog 23 #[.pointer (some ⟨cb, 0, none⟩), .pointer (some ⟨pb, po, none⟩), .map new] w fun e w' => e = .returned (.tuple #[]) ∧
      ∃ fs' C', fs'.length = fs.length + 1 ∧ Chg w' cb fs' C' ∧ Keeps (fun k => k ∈ C ∨ k = pb) w w' ∧ (∀ k ∈ C', k ∈ C ∨ w.heap.size ≤ k) ∧ w'.heap[pb]? = (w.setCell ⟨pb, po, none⟩ (.map new)).heap[pb]? := by
  have hlt : pb < w.heap.size := World.block_lt_of_cell? _ _ hc
  have HL : Hid (fs.length < 1000000000000) := hl
  have HP : Hid (pb ∉ C) := hp
  clear hl hp
  have hmf : ∀ (fn : Fn) (first cap : Array Value) (w : World), (Instr.makeFunc fn first cap).run Try.prog w = .ok (.func fn first cap) w := fun _ _ _ _ => rfl
  go_enter Try.func23, Try.ntmps23
  go_wp2_with (go_at_call 42; go_must (refine (undoBy_any cb fs C _ _ _ (h.kept ((Keeps.alloc (fun _ => False) w _).trans (Keeps.alloc (fun _ => False) _ _) (fun _ _ h => h)) (fun _ _ h => h)) (by have := HL.out; omega)).mono ?_; rintro e w1 ⟨rfl, C1, hC1, hk1, hC1'⟩; obtain ⟨hcs, hfs, hbx⟩ := assign_cells h hk1 hc hfz HP.out))
  go_end0
  obtain ⟨hk2, hb2⟩ := assign_end hk1 hlt HP.out (.map new) po
  refine ⟨rfl, _, C1, ?_, hC1.kept (Keeps.setCell _ _ _) (fun k hk e => ?_), hk2, fun k hk => ?_, hb2⟩
  · simp
  · have e' : k = pb := e
    subst e'
    rcases hC1' k hk with h1 | h1
    · exact HP.out h1
    · simp at h1; omega
  · rcases hC1' k hk with h1 | h1
    · exact .inl h1
    · simp at h1; right; omega

end Go.Proofs.Ytfcocbcihhdbkaa
