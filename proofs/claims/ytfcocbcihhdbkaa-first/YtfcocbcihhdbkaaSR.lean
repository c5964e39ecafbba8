/- Commit of a work that has written nothing; its deferred step behind a clash. -/
import Derived.Test.YtfcocbcihhdbkaaSQ
namespace Go.Proofs.Ytfcocbcihhdbkaa
open Go.RowKit Go.Shelf

set_option maxRecDepth 100000 in
set_option maxHeartbeats 400000 in
/-- the deferred step, whatever settle does -/
theorem commit1_any (cb eb : Nat) (w : World) (Q : World → Prop) (h : Calls Try.prog 22 #[.pointer (some ⟨cb, 0, none⟩), .nilIface, .pointer (some ⟨eb, 0, none⟩)] w fun e w' => e = .returned (.tuple #[]) ∧ Q w') :
    CallsD Try.prog 29 #[.pointer (some ⟨cb, 0, none⟩), .pointer (some ⟨eb, 0, none⟩)] .returning w fun e u' w' => e = .returned (.tuple #[]) ∧ u' = .returning ∧ Q w' := by
  refine callsD_of_wpS Try.func29 rfl fun c₀ cs hu => ?_
  apply wpS_region
  simp [wpOpsS, go_sem, recoverD, hu, Try.ntmps29]
  refine h.mono ?_
  rintro e w1 ⟨rfl, hk⟩
  cases c₀
  simp_all [bodyPostS, results, Try.results29]

set_option maxRecDepth 100000 in
set_option maxHeartbeats 600000 in
theorem commit_empty (R : Rep) (n : Int) (x : WkR) (w : World) (h : StoreAt w R) (hn : look R.works n = some x) (hwr : x.writes = []) :
    Calls Try.prog 13 #[.pointer (some ⟨R.sb, 0, none⟩), .int .i64 n] w fun e w' => e = .returned (.tuple #[.int .i64 x.began, .int .i64 0]) ∧ StoreAt w' { R with works := del R.works n } ∧ Keeps (· ∈ R.fp) w w' := by
  obtain ⟨b0, hwm⟩ := wm_some h hn
  have hmf : ∀ (fn : Fn) (first cap : Array Value) (w : World), (Instr.makeFunc fn first cap).run Try.prog w = .ok (.func fn first cap) w := fun _ _ _ _ => rfl
  have hW := h.kept (((Keeps.refl (fun _ => False) w).al (.cells #[.int .i64 0] 28)).al (.cells #[.slice none 0 0] 56)) (fun _ _ h => h)
  have hf := find_any R n _ hW
  rw [hn] at hf
  simp only [Option.map_some, Option.getD_some, workPtr] at hf
  have hM : MapAt (Value.int .i64) ((w.alloc (.cells #[.int .i64 0] 28)).alloc (.cells #[.slice none 0 0] 56)) b0 (R.works.map fun p => (p.1, workPtr p.2)) := by have := hW.works.worksMap; rw [hwm] at this; exact this
  have c3 : w.cell? ⟨R.sb, 3, none⟩ = some (.map (some b0)) := (h.cell 3).trans (by rw [← hwm]; rfl)
  have hlt := h.lt
  have hbf : b0 ∈ R.fp := by simp [Rep.fp, Rep.fpWorks, hwm]
  have hbl := fp_lt h _ hbf
  have hrm := remove_work (w.heap.size + 1) [] [w.heap.size + 1] b0 n _ (some ⟨x.blk, 0, none⟩) _ (chg_new w _) hM (by rw [look_map, hn]; rfl) (by simp; omega) (by simp)
  have hxm : (n, x) ∈ R.works := look_mem hn
  obtain ⟨d0, d1, dM⟩ := h.works.work hxm
  obtain ⟨-, -, dMW⟩ := hW.works.work hxm
  rw [hwr] at dMW
  have HDM : Hid (MapAt Value.string ((w.alloc (.cells #[.int .i64 0] 28)).alloc (.cells #[.slice none 0 0] 56)) x.mb []) := dMW
  have hxl : x.blk < w.heap.size := World.block_lt_of_cell? _ _ d0
  have hxb : x.blk ≠ b0 := by
    have hnd := h.nodup
    simp only [Rep.fp, Rep.fpWorks, hwm, Option.toList_some, List.cons_append, List.nil_append, List.nodup_cons, List.mem_append, not_or] at hnd
    intro e
    refine hnd.2.1.1.2 (List.mem_flatMap.2 ⟨(n, x), hxm, by simp [e]⟩)
  have HXB : Hid (x.blk ≠ b0) := hxb
  have HST : Hid (StoreAt w R) := h
  have HWM : Hid (R.wm = some b0) := hwm
  clear hW hM hn h hwm dM dMW hxb hxm
  go_enter_defers Try.func13, Try.ntmps13
  go_wp2_with (first
    | (go_at_call 30; go_must (refine hf.mono ?_; rintro e w1 ⟨rfl, rfl⟩))
    | (at_len; go_must (refine wpList_len_at _ rfl _ 74 rfl 9 79 Try.underlying74 x.mb rfl _ HDM.out ?_; simp only [List.length_nil]))
    | (go_at_call 31; go_must (refine hrm.mono ?_; rintro e w1 ⟨rfl, fs1, C1, hf1, hC1, hk1, hC1', hm1⟩; have hE0 : w1.heap[w.heap.size]? = some (.cells #[.int .i64 0] 28 (0, 0)) := ((hk1.block w.heap.size (by simp; omega) (by rintro (hc | hc); (simp at hc); omega)).trans (Below.heap_alloc _ _ _ (by simp))).trans (heap_new w _); have y0 : w1.cell? ⟨w.heap.size, 0, none⟩ = some (.int .i64 0) := cell_of_heap hE0 0; have y1 : w1.frozen? ⟨w.heap.size, 0, none⟩ = false := frozen_of_heap hE0 0; have HE0 : Hid (w1.heap[w.heap.size]? = some (.cells #[.int .i64 0] 28 (0, 0))) := hE0; clear hE0; have z0 : w1.cell? ⟨x.blk, 0, none⟩ = some (.int .i64 x.began) := hk1.cell (p := ⟨x.blk, 0, none⟩) ((((Keeps.refl (fun _ => False) w).al _).al _).cell (p := ⟨x.blk, 0, none⟩) d0 (fun h => h)) (by rintro (hc | hc); ((simp at hc); omega); exact HXB.out hc))))
  refine leaves_cons (f := 29) (args := #[.pointer (some ⟨w.heap.size + 1, 0, none⟩), .pointer (some ⟨w.heap.size, 0, none⟩)]) (by simp) (by simp [go_sem]) ?_
  have hE1 := heap_setCell_same (i := 0) HE0.out (.int .i64 0)
  refine (commit1_ok (w.heap.size + 1) w.heap.size _ ?_).mono ?_
  · exact cell_of_heap hE1 0
  rintro e u' w'' ⟨rfl, rfl, rfl⟩
  have hpost : StoreAt (w1.setCell ⟨w.heap.size, 0, none⟩ (.int .i64 0)) { R with works := del R.works n } ∧ Keeps (· ∈ R.fp) w (w1.setCell ⟨w.heap.size, 0, none⟩ (.int .i64 0)) := by
    have s1 := (HST.out.kept (((Keeps.refl (fun _ => False) w).al _).al _) (fun _ _ h => h)).removed HWM.out (fun k hk hf => by have := fp_lt HST.out k hf; simp at hk; omega) hk1 hm1
    refine ⟨s1.kept (Keeps.setCell _ _ _) (fun k hk e => ?_), ?_⟩
    · have e' : k = w.heap.size := e
      have := fp_lt HST.out k (fp_del.subset hk)
      omega
    · refine ((((Keeps.refl (· ∈ R.fp) w).al _).al _).trans hk1 (fun k hk h => ?_)).st (.inl (Nat.le_refl _)) _
      rcases h with h | rfl
      · simp at h; omega
      · exact hbf
  have hb := cell_of_heap hE1 0
  generalize w1.setCell ⟨w.heap.size, 0, none⟩ (.int .i64 0) = W3 at hpost hb
  simp at hb
  simp [Leaves, settle, results, Try.results13, go_sem, hb]
  exact hpost

end Go.Proofs.Ytfcocbcihhdbkaa
