/- Begin on a store at which no work was begun. -/
import Derived.Test.YtfcocbcihhdbkaaS4
namespace Go.Proofs.Ytfcocbcihhdbkaa
open Go.RowKit

theorem mem_fp_wm {R : Rep} {q k : Nat} (hwm : R.wm = none) (hk : k ∈ Rep.fp { R with wm := some q }) : k ∈ R.fp ∨ k = q := by
  have e : Rep.fp { R with wm := some q } = R.sb :: (q :: (R.fpWorks ++ R.fpPast)) := by
    simp [Rep.fp, Rep.fpWorks, Rep.fpPast, hwm]
  rw [e] at hk
  simp only [List.mem_cons] at hk
  simp only [Rep.fp, List.mem_cons]
  rcases hk with h | h | h
  · exact .inl (.inl h)
  · exact .inr h
  · exact .inl (.inr h)

/-- Behind the making of the map of open works. -/
theorem StoreAt.mapSet {w w' : World} {R : Rep} {C : List Nat} {q : Nat} (h : StoreAt w R) (hwm : R.wm = none) (hwk : R.works = []) (hk : Keeps (fun k => k ∈ C ∨ k = R.sb) w w') (hC : ∀ k ∈ C, k ∉ R.fp) (hq : MapAt (Value.int .i64) w q []) (hqC : q ∉ C) (hqf : q ∉ R.fp)
    (hb : w'.heap[R.sb]? = (w.setCell ⟨R.sb, 3, none⟩ (.map (some q))).heap[R.sb]?) : StoreAt w' { R with wm := some q } := by
  have hnd := h.nodup
  have hns : ∀ k, k ∈ R.fpWorks ++ R.fpPast → ¬ (k ∈ C ∨ k = R.sb) := by
    intro k hk'
    rintro (hc | rfl)
    · exact hC k hc (List.mem_cons_of_mem _ hk')
    · simp only [Rep.fp, List.nodup_cons] at hnd
      exact hnd.1 hk'
  refine ⟨?_, ⟨?_, ?_, ?_, ?_⟩, ?_, ?_⟩
  · rw [hb]
    exact h.set (R' := { R with wm := some q }) (i := 3) (v := .map (some q)) rfl (by simp [topCells])
  · show MapAt _ _ _ _
    rw [hwk]
    refine hq.kept hk ?_
    rintro (hc | rfl)
    · exact hqC hc
    · exact hqf (by simp [Rep.fp])
  · intro p hp
    rw [hwk] at hp
    cases hp
  · exact h.works.pinsMap.kept hk (fun b hb => hns b (by simp [Rep.fpWorks, pcOf, hb]))
  · exact h.works.copyMap.kept hk (fun b hb => hns b (by simp [Rep.fpWorks, pcOf, hb]))
  · exact h.past.kept hk (fun k hk' => hns k (List.mem_append_right _ hk'))
  · have e : Rep.fp { R with wm := some q } = R.sb :: (q :: (R.fpWorks ++ R.fpPast)) := by
      simp [Rep.fp, Rep.fpWorks, Rep.fpPast, hwm]
    rw [e]
    simp only [Rep.fp, List.nodup_cons, List.mem_cons, not_or] at hnd hqf ⊢
    exact ⟨⟨fun e => hqf.1 e.symm, hnd.1⟩, hqf.2, hnd.2⟩

set_option maxRecDepth 100000 in
set_option maxHeartbeats 1000000 in
theorem begin_none (R : Rep) (w : World) (h : StoreAt w R) (hwm : R.wm = none) (hb1 : 0 ≤ R.begun) (hb2 : R.begun < 1152921504606846976) :
    Calls Try.prog 7 #[.pointer (some ⟨R.sb, 0, none⟩)] w fun e w' => e = .returned (.tuple #[.int .i64 (R.begun + 1), .int .i64 0]) ∧ BeginPost R w w' := by
  obtain ⟨h0, -, h2, h3, -, -, -, -, -⟩ := h.seven
  have hlt := h.lt
  have hw : OptMap (Value.int .i64) w none [] := rfl
  have hwk : R.works = [] := by have := h.works.worksMap; rw [hwm] at this; exact List.map_eq_nil_iff.1 this
  have hmf : ∀ (fn : Fn) (first cap : Array Value) (w : World), (Instr.makeFunc fn first cap).run Try.prog w = .ok (.func fn first cap) w := fun _ _ _ _ => rfl
  have hmm := @run_makeMap Try.prog
  have hem := eqMap_none
  rw [hwm] at h3
  have HST : Hid (StoreAt w R) := h
  have HWM0 : Hid (R.wm = none) := hwm
  have HWK : Hid (R.works = []) := hwk
  have HWR : Hid (IntKind.i64.wrap (R.begun + 1) = R.begun + 1) := IntWalk.i64_in _ ⟨by omega, by omega⟩
  clear h hwm hwk
  go_enter_defers Try.func7, Try.ntmps7
  go_wp2_with (first
    | (at_len; go_must (refine wpList_len_opt _ rfl _ 59 rfl 3 73 Try.underlying59 none rfl [] ((hw.kept (Keeps.alloc (fun _ => False) _ _) (fun _ _ h => h)).kept (Keeps.alloc (fun _ => False) _ _) (fun _ _ h => h)) ?_; simp only [List.length_nil]))
    | (go_at_call 23; go_must (refine (assign_map (w.heap.size + 1) [] [w.heap.size + 1] R.sb 3 none (some (w.heap.size + 1 + 1)) _ ((chg_new w _).kept (Keeps.alloc (fun _ => False) _ _) (fun _ _ h => h)) (((HST.out.kept (((Keeps.refl (fun _ => False) w).al _).al _) (fun _ _ h => h)).kept (Keeps.alloc (fun _ => False) _ _) (fun _ _ h => h)).cell 3 |>.trans (by rw [← HWM0.out]; rfl)) ((HST.out.kept ((((Keeps.refl (fun _ => False) w).al _).al _).al _) (fun _ _ h => h)).frozen 3) (by simp; omega) (by simp)).mono ?_; rintro e w0 ⟨rfl, fs0, C0, hf0, hC0, hk0, hC0', hb0⟩; have HB0 : Hid (w0.heap[R.sb]? = _) := hb0; clear hb0)))
  have HC0 : Hid (∀ k ∈ C0, k ∉ R.fp ∧ w.heap.size < k ∧ k ≠ w.heap.size + 1 + 1 ∧ k < w0.heap.size) := fun k hk => by
    have hl0 := hC0.lt k hk
    rcases hC0' k hk with h' | h'
    · simp at h'
      exact ⟨fun hf => by have := fp_lt HST.out k hf; omega, by omega, by omega, hl0⟩
    · simp at h'
      exact ⟨fun hf => by have := fp_lt HST.out k hf; omega, by omega, by omega, hl0⟩
  have HS0 : Hid (StoreAt w0 { R with wm := some (w.heap.size + 1 + 1) }) := by
    refine StoreAt.mapSet (HST.out.kept ((((Keeps.refl (fun _ => False) w).al _).al _).al _) (fun _ _ h => h)) HWM0.out HWK.out hk0 (fun k hk hf => by have := fp_lt HST.out k hf; simp at hk; omega) ?_ (by simp) (fun hf => by have := fp_lt HST.out _ hf; omega) HB0.out
    have := MapAt.made (Value.int .i64) ((w.alloc (.cells #[.int .i64 0] 28)).alloc (.cells #[.slice none 0 0] 56))
    simpa using this
  have hz0 : w.heap.size + 3 ≤ w0.heap.size := by have := hk0.size; simp at this; omega
  have k2 : w0.cell? ⟨R.sb, 2, none⟩ = some (.int .i64 R.begun) := HS0.out.cell 2
  have HSB0 : Hid (R.sb ∉ C0) := fun hc => (HC0.out _ hc).1 (by simp [Rep.fp])
  clear hw h0 h2 h3
  refine wp_normal ?_
  go_region_with (go_at_call 24; go_must (refine (assign_int (w.heap.size + 1) fs0 C0 R.sb 2 R.begun (IntKind.i64.wrap (R.begun + 1)) _ (hC0.kept (Keeps.drew (fun _ => False) _) (fun _ _ h => h)) ((HS0.out.kept (Keeps.drew (fun _ => False) _) (fun _ _ h => h)).cell 2) ((HS0.out.kept (Keeps.drew (fun _ => False) _) (fun _ _ h => h)).frozen 2) HSB0.out (by rw [hf0]; simp)).mono ?_; rintro e w1 ⟨rfl, fs1, C1, hf1, hC1, hk1, hC1', hb1⟩; rw [HWR.out] at hb1; have HB1 : Hid (w1.heap[R.sb]? = _) := hb1; clear hb1))
  have HC1 : Hid (∀ k ∈ C1, k ∉ R.fp ∧ w.heap.size < k ∧ k ≠ w.heap.size + 1 + 1 ∧ k < w1.heap.size) := fun k hk => by
    have hl1 := hC1.lt k hk
    rcases hC1' k hk with h' | h'
    · obtain ⟨a1, a2, a3, a4⟩ := HC0.out k h'
      exact ⟨a1, a2, a3, hl1⟩
    · simp at h'
      exact ⟨fun hf => by have := fp_lt HST.out k hf; omega, by omega, by omega, hl1⟩
  have HS1 : Hid (StoreAt w1 { R with begun := R.begun + 1, wm := some (w.heap.size + 1 + 1) }) := StoreAt.begunSet (R := { R with wm := some (w.heap.size + 1 + 1) }) (HS0.out.kept (Keeps.drew (fun _ => False) _) (fun _ _ h => h)) hk1 (fun k hk hf => by
    obtain ⟨a1, a2, a3, a4⟩ := HC0.out k hk
    rcases mem_fp_wm HWM0.out hf with h | h
    · exact a1 h
    · exact a3 h) HB1.out
  have g0 : w1.cell? ⟨R.sb, 0, none⟩ = some (.int .i64 R.now) := HS1.out.cell 0
  have g2 : w1.cell? ⟨R.sb, 2, none⟩ = some (.int .i64 (R.begun + 1)) := HS1.out.cell 2
  have g3 : w1.cell? ⟨R.sb, 3, none⟩ = some (.map (some (w.heap.size + 1 + 1))) := HS1.out.cell 3
  have gl : R.sb < w1.heap.size := HS1.out.lt
  have hz1 : w.heap.size + 3 ≤ w1.heap.size := by have := hk1.size; simp at this; omega
  have gM : MapAt (Value.int .i64) w1 (w.heap.size + 1 + 1) (R.works.map fun p => (p.1, workPtr p.2)) := HS1.out.works.worksMap
  have HN : Hid (look (R.works.map fun p => (p.1, workPtr p.2)) (R.begun + 1) = none) := by unfold Hid; rw [HWK.out]; rfl
  have HCB : Hid (w.heap.size + 1 + 1 ∉ C1) := fun hc => (HC1.out _ hc).2.2.1 rfl
  have HSB : Hid (¬ (R.sb ∈ C1 ∨ R.sb = w.heap.size + 1 + 1)) := fun h' => h'.elim (fun hc => (HC1.out _ hc).1 (by simp [Rep.fp])) (fun e => by omega)
  have hE := enter_work (w.heap.size + 1) fs1 C1 (w.heap.size + 1 + 1) (R.begun + 1) _ none (some ⟨w1.heap.size + 1, 0, none⟩) ((w1.alloc (.map #[] 0)).alloc (.cells #[.int .i64 R.now, .map (some w1.heap.size)] 76)).drew (hC1.kept (((Keeps.refl (fun _ => False) w1).al _).al _).dr (fun _ _ h => h)) (gM.kept (((Keeps.refl (fun _ => False) w1).al _).al _).dr (fun h => h)) (by rw [HN.out]; rfl) HCB.out (by rw [hf1, hf0]; simp)
  clear k2
  go_wp2_with fail
  go_region_held3 (fun W => W.cell? ⟨R.sb, 0, none⟩ = some (.int .i64 R.now) ∧ W.cell? ⟨R.sb, 2, none⟩ = some (.int .i64 (R.begun + 1)) ∧ W.cell? ⟨R.sb, 3, none⟩ = some (.map (some (w.heap.size + 1 + 1)))) (go_keep) (first | (go_at_call 25; refine hE.mono ?_; rintro e w2 ⟨rfl, fs2, C2, hf2, hC2, hk2, hC2', hm2⟩; have q0 := hk2.cell (p := ⟨R.sb, 0, none⟩) ((((Keeps.refl (fun _ => False) w1).al _).al _).dr.cell g0 (fun h => h)) HSB.out; have q2 := hk2.cell (p := ⟨R.sb, 2, none⟩) ((((Keeps.refl (fun _ => False) w1).al _).al _).dr.cell g2 (fun h => h)) HSB.out; have q3 := hk2.cell (p := ⟨R.sb, 3, none⟩) ((((Keeps.refl (fun _ => False) w1).al _).al _).dr.cell g3 (fun h => h)) HSB.out))
  have HK2 : Hid (Keeps (fun k => k ∈ C1 ∨ k = w.heap.size + 1 + 1) ((w1.alloc (.map #[] 0)).alloc (.cells #[.int .i64 R.now, .map (some w1.heap.size)] 76)).drew w2) := hk2
  obtain ⟨x1, x2⟩ := HS1.out.entered (C := C1) (b0 := w.heap.size + 1 + 1) (n := R.begun + 1) (now := R.now) rfl (fun k hk => by
    obtain ⟨a1, a2, a3, a4⟩ := HC1.out k hk
    exact ⟨fun hf => by
      rcases mem_fp_wm (R := { R with begun := R.begun + 1 }) HWM0.out hf with h | h
      · exact a1 h
      · exact a3 h, by omega, by omega⟩) (by show look R.works _ = none; rw [HWK.out]; rfl) HK2.out hm2
  have hE0 : w2.heap[w.heap.size]? = some (.cells #[.int .i64 0] 28 (0, 0)) := by
    rw [x2.block w.heap.size (by omega) (by rintro (hc | hc); exact absurd (HC1.out _ hc).2.1 (by omega); omega)]
    rw [hk1.block w.heap.size (by simp; omega) (by rintro (hc | hc); exact absurd (HC0.out _ hc).2.1 (by omega); omega)]
    show w0.heap[w.heap.size]? = _
    rw [hk0.block w.heap.size (by simp; omega) (by rintro (hc | hc); simp at hc; omega)]
    have := heap_new w (.cells #[.int .i64 0] 28)
    exact (Below.heap_alloc _ _ _ (by simp; omega)).trans ((Below.heap_alloc _ _ _ (by simp)).trans this)
  have y0 : w2.cell? ⟨w.heap.size, 0, none⟩ = some (.int .i64 0) := cell_of_heap hE0 0
  have y1 : w2.frozen? ⟨w.heap.size, 0, none⟩ = false := frozen_of_heap hE0 0
  have HE0 : Hid (w2.heap[w.heap.size]? = some (.cells #[.int .i64 0] 28 (0, 0))) := hE0
  have HX1 : Hid (StoreAt w2 _) := x1
  have HX2 : Hid (Keeps _ w1 w2) := x2
  clear hE0 x1 x2 hE hm2 hk2 g0 g2 g3 gM
  go_wp2
  refine leaves_cons (f := 21) (args := #[.pointer (some ⟨w.heap.size + 1, 0, none⟩), .pointer (some ⟨w.heap.size, 0, none⟩)]) (by simp) (by simp [go_sem]) ?_
  have hE1 := heap_setCell_same (i := 0) HE0.out (.int .i64 0)
  refine (begin1_ok (w.heap.size + 1) w.heap.size _ ?_).mono ?_
  · exact cell_of_heap hE1 0
  rintro e u' w'' ⟨rfl, rfl, rfl⟩
  have hpost : BeginPost R w (w2.setCell ⟨w.heap.size, 0, none⟩ (.int .i64 0)) := by
    refine ⟨w1.heap.size + 1, w1.heap.size, some (w.heap.size + 1 + 1), ?_, ?_, .inr ⟨_, rfl, by omega⟩, by omega, by omega⟩
    · refine HX1.out.kept (Keeps.setCell _ _ _) (fun k hk e => ?_)
      have e' : k = w.heap.size := e
      have hkk := mem_fp_entered (R := { R with wm := some (w.heap.size + 1 + 1) }) hk
      rcases hkk with h | h | h
      · rcases mem_fp_wm HWM0.out h with h | h
        · have := fp_lt HST.out k h; omega
        · omega
      · omega
      · omega
    · have h0 : Keeps (· ∈ R.fp) w w0 := ((((Keeps.refl (· ∈ R.fp) w).al _).al _).al _).trans hk0 (fun k hk h => by
        rcases h with h | rfl
        · simp at h; omega
        · simp [Rep.fp])
      have h1 : Keeps (· ∈ R.fp) w w1 := (h0.dr).trans hk1 (fun k hk h => by
        rcases h with h | rfl
        · exact absurd (HC0.out k h).2.1 (by omega)
        · simp [Rep.fp])
      refine (h1.trans HX2.out (fun k hk h => ?_)).st (.inl (Nat.le_refl _)) _
      rcases h with h | rfl
      · exact absurd (HC1.out k h).2.1 (by omega)
      · omega
  have hb := cell_of_heap hE1 0
  generalize w2.setCell ⟨w.heap.size, 0, none⟩ (.int .i64 0) = W3 at hpost hb
  simp at hb
  simp [Leaves, settle, results, Try.results7, go_sem, hb, hpost]

end Go.Proofs.Ytfcocbcihhdbkaa
