import Derived.Test.YtfcocbcihhdbkaaM2
import Derived.Deep.LoopGhost
import Derived.Shelf.Slices.Delete
import Derived.Shelf.Slices.Cells
import Derived.Test.YtfcocbcihhdbkaaM1

/- Add of the first key. -/
namespace Go.Proofs.Ytfcocbcihhdbkaa
open Go.RowKit

/-- The map of versions is made. -/
theorem StoreAt.vmSet {w : World} {R : Rep} (h : StoreAt w R) (hvm : R.vm = none) (hh : R.hist = []) (o : Obj) : StoreAt (((w.setCell ⟨R.sb, 8, none⟩ (.map (some (w.heap.size + 1)))).alloc o).alloc (.map #[] 0)) { R with vm := some (w.heap.size + 1) } := by
  have hlt := fp_lt h
  have hnd := h.nodup
  have hk : Keeps (· = R.sb) w (((w.setCell ⟨R.sb, 8, none⟩ (.map (some (w.heap.size + 1)))).alloc o).alloc (.map #[] 0)) := ((Keeps.setCell w ⟨R.sb, 8, none⟩ _).al _).al _
  have hne : ∀ k ∈ R.fpWorks ++ R.fpPast, ¬ k = R.sb := by
    intro k hk1 e
    subst e
    simp only [Rep.fp, List.nodup_cons] at hnd
    exact hnd.1 hk1
  have hw := h.works.kept hk (fun k hk1 => hne k (List.mem_append_left _ hk1))
  refine ⟨?_, ⟨hw.worksMap, hw.worksEach, hw.pinsMap, hw.copyMap⟩, ⟨h.past.keysRow.kept hk (fun g hg => hne g (List.mem_append_right _ (by simp [Rep.fpPast, hg]))), ?_, ?_⟩, ?_⟩
  · show (World.alloc _ _).heap[R.sb]? = _
    rw [Below.heap_alloc _ _ _ (by simp; have := h.lt; omega), Below.heap_alloc _ _ _ (by simp; have := h.lt; omega), heap_setCell_same h.top]
    simp [topCells]
  · show MapAt _ _ _ _
    rw [hh]
    have := MapAt.made Value.string ((w.setCell ⟨R.sb, 8, none⟩ (.map (some (w.heap.size + 1)))).alloc o)
    simpa using this
  · intro p hp
    have hp' : p ∈ R.hist := hp
    rw [hh] at hp'
    cases hp'
  · have e : Rep.fp { R with vm := some (w.heap.size + 1) } = R.sb :: (R.fpWorks ++ (R.kv.ownBlock.toList ++ [w.heap.size + 1] ++ R.hist.flatMap (fun p => p.2.sl.ownBlock.toList))) := rfl
    have e0 : R.fp = R.sb :: (R.fpWorks ++ (R.kv.ownBlock.toList ++ R.hist.flatMap (fun p => p.2.sl.ownBlock.toList))) := by simp [Rep.fp, Rep.fpPast, hvm]
    have hp : (Rep.fp { R with vm := some (w.heap.size + 1) }).Perm ((w.heap.size + 1) :: R.fp) := by
      rw [e, e0]
      refine List.Perm.trans ?_ (List.Perm.swap _ _ _)
      refine List.Perm.cons _ ?_
      rw [List.append_assoc, List.singleton_append]
      refine List.Perm.trans (List.Perm.append_left _ List.perm_middle) ?_
      exact List.perm_middle
    rw [hp.nodup_iff]
    exact List.nodup_cons.2 ⟨fun h' => by have := hlt _ h'; omega, hnd⟩

set_option maxRecDepth 100000 in
set_option maxHeartbeats 1000000 in
theorem add_first (R : Rep) (key : ByteArray) (v : Ver) (w : World) (h : StoreAt w R) (hvm : R.vm = none) (hin : memB R.keys key = false) (hrs : Rises R.keys) (hl : R.keys.length < 1000000000000) :
    Calls Try.prog 69 #[.pointer (some ⟨R.sb, 7, none⟩), .string key, .agg #[.int .i64 v.state, .string v.value, .bool v.gone]] w fun e w' => e = .returned (.tuple #[]) ∧ AddPost R key v w w' := by
  have hh0 : R.hist = [] := by have := h.past.histMap; rw [hvm] at this; exact List.map_eq_nil_iff.1 this
  have c5 : w.cell? ⟨R.sb, 7, none⟩ = some R.kv := h.cell 7
  have c6 : w.cell? ⟨R.sb, 8, none⟩ = some (.map none) := (h.cell 8).trans (by rw [← hvm]; rfl)
  have c6f : w.frozen? ⟨R.sb, 8, none⟩ = false := h.frozen 8
  have hlt := h.lt
  have hlt1 : R.sb < w.heap.size + 1 := by omega
  have hlt2 : R.sb < w.heap.size + 1 + 1 := by omega
  have hmm := @run_makeMap Try.prog
  have S0 : StoreAt (((w.setCell ⟨R.sb, 8, none⟩ (.map (some (w.heap.size + 1)))).alloc (.cells #[.int .i64 v.state, .string v.value, .bool v.gone] 79)).alloc (.map #[] 0)) { R with vm := some (w.heap.size + 1) } := h.vmSet hvm hh0 (.cells #[.int .i64 v.state, .string v.value, .bool v.gone] 79)
  have HK0 : Hid (Keeps (· = R.sb) w (((w.setCell ⟨R.sb, 8, none⟩ (.map (some (w.heap.size + 1)))).alloc (.cells #[.int .i64 v.state, .string v.value, .bool v.gone] 79)).alloc (.map #[] 0))) := ((Keeps.setCell w ⟨R.sb, 8, none⟩ _).al _).al _
  have hM : MapAt Value.string (((w.setCell ⟨R.sb, 8, none⟩ (.map (some (w.heap.size + 1)))).alloc (.cells #[.int .i64 v.state, .string v.value, .bool v.gone] 79)).alloc (.map #[] 0)) (w.heap.size + 1) (R.hist.map fun p => (p.1, p.2.sl)) := S0.past.histMap
  have d5z : (((w.setCell ⟨R.sb, 8, none⟩ (.map (some (w.heap.size + 1)))).alloc (.cells #[.int .i64 v.state, .string v.value, .bool v.gone] 79)).alloc (.map #[] 0)).cell? ⟨R.sb, 7, none⟩ = some R.kv := S0.cell 7
  have hem := eqVm_none
  have hnot : ∀ (x : Bool) (w : World), (Op.unary .not (.bool x)).run Try.prog w = .ok (.bool (!x)) w := fun _ _ => rfl
  have HLK : Hid (look (R.hist.map fun p => (p.1, p.2.sl)) key = none) := by unfold Hid; rw [hh0]; rfl
  have hbsn := search_keys R.kv R.keys key (((w.setCell ⟨R.sb, 8, none⟩ (.map (some (w.heap.size + 1)))).alloc (.cells #[.int .i64 v.state, .string v.value, .bool v.gone] 79)).alloc (.map #[] 0)) S0.past.keysRow hrs (by omega)
  rw [hin] at hbsn
  have HST : Hid (StoreAt w R) := h
  have HX : Hid (look R.hist key = none) := by unfold Hid; rw [hh0]; rfl
  have HIN : Hid (memB R.keys key = false) := hin
  have HVM : Hid (R.vm = none) := hvm
  have HM : Hid (MapAt Value.string (((w.setCell ⟨R.sb, 8, none⟩ (.map (some (w.heap.size + 1)))).alloc (.cells #[.int .i64 v.state, .string v.value, .bool v.gone] 79)).alloc (.map #[] 0)) (w.heap.size + 1) (R.hist.map fun p => (p.1, p.2.sl))) := hM
  have HS0 : Hid (StoreAt (((w.setCell ⟨R.sb, 8, none⟩ (.map (some (w.heap.size + 1)))).alloc (.cells #[.int .i64 v.state, .string v.value, .bool v.gone] 79)).alloc (.map #[] 0)) { R with vm := some (w.heap.size + 1) }) := S0
  have HL : Hid (R.keys.length < 1000000000000) := hl
  have HINS : Hid (∀ w1, Keeps (fun _ => False) (((w.setCell ⟨R.sb, 8, none⟩ (.map (some (w.heap.size + 1)))).alloc (.cells #[.int .i64 v.state, .string v.value, .bool v.gone] 79)).alloc (.map #[] 0)) w1 → Calls Try.prog 79 #[R.kv, .int .i64 (below R.keys key), .slice (some ⟨w1.heap.size, 0, none⟩) 1 1] (w1.alloc (.cells #[.string key] 9)) fun e w' => ∃ g cap, e = .returned (.slice (some ⟨g, 0, none⟩) (R.keys.length + 1) cap) ∧ Row w' 9 1 (.slice (some ⟨g, 0, none⟩) (R.keys.length + 1) cap) (R.keys.length + 1) ((insAt R.keys (below R.keys key) key).map Value.string) ∧ Keeps (fun k => R.kv.ownBlock = some k) (w1.alloc (.cells #[.string key] 9)) w' ∧ (R.kv.ownBlock = some g ∨ (w1.alloc (.cells #[.string key] 9)).heap.size ≤ g)) := fun w1 hk1 =>
    insert_key R.kv R.keys (below R.keys key) key w1.heap.size _ ((S0.past.keysRow.kept hk1 (fun _ _ h => h)).kept (Keeps.alloc (fun _ => False) _ _) (fun _ _ h => h)) (below_le _ _) hl (heap_new w1 _) (fun e => by have := h.past.keysRow.lt e; have := hk1.size; simp at this; omega)
  have HKB : Hid (∀ g, R.kv.ownBlock = some g → g ≠ R.sb ∧ g < w.heap.size) := fun g hg => by
    have hn := ((fp_perm R key).nodup_iff).1 h.nodup
    rw [List.nodup_append] at hn
    have hd := hn.2.2
    exact ⟨fun e => hd g (by simp [hg]) g (List.mem_append_right _ (by simp [Rep.restOf, e])) rfl, h.past.keysRow.lt hg⟩
  obtain ⟨i0, hi, hz0', hz1, hz2⟩ := info_parts Try.infoVersion
  clear h hin hvm hM hl hrs hh0 S0
  go_enter Try.func69, Try.ntmps69
  go_wp2_with (first
    | (at_lookup; go_must (refine wpList_lookup_ok_at _ rfl _ _ 62 rfl 9 99 strKeyOk Try.underlying62 Try.underlying9 _ (Try.zeroVersions _) (w.heap.size + 1) rfl key rfl _ HM.out ?_; rw [HLK.out]; simp only [Option.getD_none, Option.isSome_none]))
    | (go_at_call 57; go_must (refine hbsn.mono ?_; rintro e w1 ⟨rfl, hk1⟩; have hKw1 : Keeps (· = R.sb) w w1 := HK0.out.tr hk1 (fun _ h => h.elim); have d5 : w1.cell? ⟨R.sb, 7, none⟩ = some R.kv := hk1.cell (p := ⟨R.sb, 7, none⟩) d5z (fun h => h); have dlt : R.sb < w1.heap.size := by (have := hKw1.size; omega)))
    | (go_at_call 79; go_must (refine (HINS.out w1 hk1).mono ?_; rintro e w2 ⟨g1, cap1, rfl, hr2, hk2, hat2⟩; have hKw2 : Keeps (fun k => R.kv.ownBlock = some k) (((w.setCell ⟨R.sb, 8, none⟩ (.map (some (w.heap.size + 1)))).alloc (.cells #[.int .i64 v.state, .string v.value, .bool v.gone] 79)).alloc (.map #[] 0)) w2 := ((hk1.mono (fun _ _ h => h.elim)).al _).tr hk2 (fun _ h => h); have f5 : w2.cell? ⟨R.sb, 7, none⟩ = some R.kv := hKw2.cell (p := ⟨R.sb, 7, none⟩) d5z (fun e => (HKB.out _ e).1 rfl); have f5f : w2.frozen? ⟨R.sb, 7, none⟩ = false := by (rw [hKw2.frozen (p := ⟨R.sb, 7, none⟩) (by simp; omega) (fun e => (HKB.out _ e).1 rfl)]; exact HS0.out.frozen 7))))
  have hz0 : (((w.setCell ⟨R.sb, 8, none⟩ (.map (some (w.heap.size + 1)))).alloc (.cells #[.int .i64 v.state, .string v.value, .bool v.gone] 79)).alloc (.map #[] 0)).heap.size = w.heap.size + 2 := by simp
  have hg1 : g1 ≠ R.sb ∧ g1 ≠ w.heap.size + 1 ∧ (R.kv.ownBlock = some g1 ∨ w.heap.size + 2 < g1) := by
    rcases hat2 with e | e
    · have := (HKB.out g1 e).2
      exact ⟨(HKB.out g1 e).1, by omega, .inl e⟩
    · have h1 := hk1.size
      rw [hz0] at h1
      simp at e
      exact ⟨by omega, by omega, .inr (by omega)⟩
  have hT2 : w2.heap[R.sb]? = some (.cells (topCells { R with vm := some (w.heap.size + 1) }) 66 (0, 0)) := (hKw2.block R.sb (by rw [hz0]; omega) (fun e => (HKB.out _ e).1 rfl)).trans HS0.out.top
  have hB2 : w2.heap[w.heap.size]? = some (.cells #[.int .i64 v.state, .string v.value, .bool v.gone] 79 (0, 0)) := by
    rw [hKw2.block w.heap.size (by rw [hz0]; omega) (fun e => by have := (HKB.out _ e).2; omega), Below.heap_alloc _ _ _ (by simp)]
    have := heap_new (w.setCell ⟨R.sb, 8, none⟩ (.map (some (w.heap.size + 1)))) (.cells #[.int .i64 v.state, .string v.value, .bool v.gone] 79)
    simpa using this
  have K3 : Keeps (fun k => R.kv.ownBlock = some k ∨ k = R.sb) (((w.setCell ⟨R.sb, 8, none⟩ (.map (some (w.heap.size + 1)))).alloc (.cells #[.int .i64 v.state, .string v.value, .bool v.gone] 79)).alloc (.map #[] 0)) (w2.setCell ⟨R.sb, 7, none⟩ (.slice (some ⟨g1, 0, none⟩) (R.keys.length + 1) cap1)) := (hKw2.mono (fun _ _ h => .inl h)).st (.inr (.inr rfl)) _
  have c1 : ∀ g, (Value.slice (some ⟨g1, 0, none⟩) (R.keys.length + 1) cap1).ownBlock = some g → R.kv.ownBlock = some g ∨ w.heap.size ≤ g := fun g hg => by
    have hg' : g1 = g := by simpa [Value.ownBlock] using hg
    subst hg'
    rcases hg1.2.2 with e | e
    · exact .inl e
    · right; omega
  have S3 := HS0.out.keysSet (kv' := .slice (some ⟨g1, 0, none⟩) (R.keys.length + 1) cap1) (keys' := insAt R.keys (below R.keys key) key) K3 (fun k _ hs => hs.elim (fun e => .inr e) (fun e => .inl e)) ((heap_setCell_same (i := 7) hT2 _).trans (by simp [topCells])) (by
    have hr3 := hr2.kept (Keeps.setCell w2 ⟨R.sb, 7, none⟩ (.slice (some ⟨g1, 0, none⟩) (R.keys.length + 1) cap1)) (fun g hg => by
      have hg' : g1 = g := by simpa [Value.ownBlock] using hg
      exact fun e => hg1.1 (hg'.trans e))
    rw [insAt_length _ _ _ (below_le _ _)]
    exact hr3) (fun g hg => by
      have hg' : g1 = g := by simpa [Value.ownBlock] using hg
      subst hg'
      rcases hg1.2.2 with e | e
      · exact .inl e
      · right; rw [hz0]; omega)
  have B3 : (w2.setCell ⟨R.sb, 7, none⟩ (.slice (some ⟨g1, 0, none⟩) (R.keys.length + 1) cap1)).heap[w.heap.size]? = some (.cells #[.int .i64 v.state, .string v.value, .bool v.gone] 79 (0, 0)) := (Below.heap_setCell _ _ _ _ (by simp only; omega)).trans hB2
  have z3 : w.heap.size + 3 ≤ (w2.setCell ⟨R.sb, 7, none⟩ (.slice (some ⟨g1, 0, none⟩) (R.keys.length + 1) cap1)).heap.size := by
    have h1 := hk1.size
    have h2 := hk2.size
    rw [hz0] at h1
    simp at h2
    simp
    omega
  have G3 : ∀ g, (Value.slice (some ⟨g1, 0, none⟩) (R.keys.length + 1) cap1).ownBlock = some g → g < (w2.setCell ⟨R.sb, 7, none⟩ (.slice (some ⟨g1, 0, none⟩) (R.keys.length + 1) cap1)).heap.size := fun g hg => S3.past.keysRow.lt hg
  clear hT2 hB2 hk1 hKw1 hKw2 hk2 hr2 d5 dlt f5 f5f hbsn d5z
  generalize w2.setCell ⟨R.sb, 7, none⟩ (.slice (some ⟨g1, 0, none⟩) (R.keys.length + 1) cap1) = W3 at K3 S3 B3 z3 G3
  have p0 : W3.cell? ⟨w.heap.size, 0, none⟩ = some (.int .i64 v.state) := cell_of_heap B3 0
  have p1 : W3.cell? ⟨w.heap.size, 1, none⟩ = some (.string v.value) := cell_of_heap B3 1
  have p2 : W3.cell? ⟨w.heap.size, 2, none⟩ = some (.bool v.gone) := cell_of_heap B3 2
  have p6 : W3.cell? ⟨R.sb, 8, none⟩ = some (.map (some (w.heap.size + 1))) := S3.cell 8
  have plt : R.sb < W3.heap.size := S3.lt
  have HS3 : Hid (StoreAt W3 { R with kv := (.slice (some ⟨g1, 0, none⟩) (R.keys.length + 1) cap1), keys := insAt R.keys (below R.keys key) key, vm := some (w.heap.size + 1) }) := S3
  have HK3 : Hid (Keeps (fun k => R.kv.ownBlock = some k ∨ k = R.sb) (((w.setCell ⟨R.sb, 8, none⟩ (.map (some (w.heap.size + 1)))).alloc (.cells #[.int .i64 v.state, .string v.value, .bool v.gone] 79)).alloc (.map #[] 0)) W3) := K3
  have HM3 : Hid (MapAt Value.string W3 (w.heap.size + 1) (R.hist.map fun p => (p.1, p.2.sl))) := S3.past.histMap
  have HSB : Hid (R.sb ≠ w.heap.size + 1) := by unfold Hid; omega
  clear S3 K3 B3 c5 c6 c6f
  go_region_held3 (fun W => W.cell? ⟨R.sb, 8, none⟩ = some (.map (some (w.heap.size + 1))) ∧ W.cell? ⟨w.heap.size, 0, none⟩ = some (.int .i64 v.state) ∧ W.cell? ⟨w.heap.size, 1, none⟩ = some (.string v.value) ∧ W.cell? ⟨w.heap.size, 2, none⟩ = some (.bool v.gone)) (go_keep)
    ((refine step_append_row _ (by rfl) _ _ 99 (by rfl) 79 i0 _ 3 32 Try.underlying99 hi hz0' hz1 hz2 (by rfl) (.slice none 0 0) 0 [] (by rfl) (Row.nil _ _ _) ⟨W3.heap.size, 0, none⟩ 1 1 v.cells (by rfl) (by rfl) (add_news0 W3 v) (by simp [Ver.cells, Value.oneCell']) (by unfold maxLen; omega) (by omega) ?_; intro v' w5 hown' hgrow _ hat; obtain ⟨g', cap', rfl, hrow'⟩ := hown'.one; have hk5 : Keeps (fun _ => False) W3 w5 := (((Keeps.refl (fun _ => False) W3).al _).dr).tr (Keeps.grown hgrow) (fun _ h => by simp [Value.ownBlock] at h); obtain ⟨r0, r1, r2, r3⟩ := keep4c hk5 (fun h => h) (fun h => h) p6 p0 p1 p2; obtain ⟨ob, hrun, hM1⟩ := (HM3.out.kept hk5 (fun h => h)).update (P := Try.prog) (t := 62) strKeyOk Try.underlying62 Try.underlying9 key (.slice (some ⟨g', 0, none⟩) 1 cap'); obtain ⟨t0, t1, t2, t3⟩ := keep4b (Keeps.setBlock w5 (w.heap.size + 1) ob) HSB.out (by omega) r0 r1 r2 r3))
  go_end0
  have hg' : g' = W3.heap.size + 1 := by
    rcases hat with h | h
    · simp [Value.ownBlock] at h
    · simpa [Value.ownBlock] using h
  have hvs : versOf R.hist key = [] := by unfold versOf; rw [HX.out]; rfl
  have hkk : Keeps (fun k => k = w.heap.size + 1) W3 (Go.ChangeMaps.setBlock w5 (w.heap.size + 1) ob) := (hk5.mono (fun _ _ h => h.elim)).tr (Keeps.setBlock w5 (w.heap.size + 1) ob) (fun _ h => h)
  refine ⟨rfl, (.slice (some ⟨g1, 0, none⟩) (R.keys.length + 1) cap1), w.heap.size + 1, .slice (some ⟨g', 0, none⟩) 1 cap', ?_, ?_, c1, fun g hg => ?_, .inr ⟨HVM.out, by omega⟩⟩
  · rw [if_neg (by rw [HIN.out]; simp), hvs, List.nil_append]
    refine HS3.out.added key hkk (fun k _ hs => .inr (.inr (.inl (by rw [hs])))) ?_ ?_ hM1 ?_ (fun g hg => .inl hg) (fun g hg => ?_) (.inl rfl) ?_
    · exact (hkk.block R.sb plt HSB.out).trans HS3.out.top
    · refine HS3.out.past.keysRow.kept hkk (fun g hg e => ?_)
      have hg2 : g1 = g := by simpa [Value.ownBlock] using hg
      exact hg1.2.1 (hg2.trans e)
    · have := hrow'.kept (Keeps.setBlock w5 (w.heap.size + 1) ob) (fun g hg e => by
        have hg2 : g' = g := by simpa [Value.ownBlock] using hg
        have e' : g = w.heap.size + 1 := e
        omega)
      simpa using this
    · have hg2 : g' = g := by simpa [Value.ownBlock] using hg
      right; omega
    · have h1 : g1 ≠ g' := by have := G3 g1 rfl; omega
      have h2 : g' ≠ w.heap.size + 1 := by omega
      simp [Value.ownBlock, h1, h2, hg1.2.1]
  · have h1 : Keeps (· ∈ R.fp) w (((w.setCell ⟨R.sb, 8, none⟩ (.map (some (w.heap.size + 1)))).alloc (.cells #[.int .i64 v.state, .string v.value, .bool v.gone] 79)).alloc (.map #[] 0)) := HK0.out.mono (fun k _ h => by have h' : k = R.sb := h; simp [Rep.fp, h'])
    have h2 : Keeps (· ∈ R.fp) w W3 := h1.trans HK3.out (fun k hk h => by
      rcases h with h | rfl
      · simp only [Rep.fp, Rep.fpPast, List.mem_cons, List.mem_append]
        exact .inr (.inr (.inl (.inl (by simp [h]))))
      · simp [Rep.fp])
    exact h2.trans hkk (fun k hk h => by have h' : k = w.heap.size + 1 := h; omega)
  · have hg2 : g' = g := by simpa [Value.ownBlock] using hg
    right; omega

end Go.Proofs.Ytfcocbcihhdbkaa

/- What becomes of a store by the versions that a work adds. -/
namespace Go.Proofs.Ytfcocbcihhdbkaa
open Go.RowKit

theorem below_split {ks : List ByteArray} {x : ByteArray} (hr : Rises ks) (hx : x ∉ ks) : (∀ k ∈ ks.take (below ks x), ltK k x = true) ∧ (∀ k ∈ ks.drop (below ks x), ltK x k = true) := by
  constructor
  · intro k hk
    obtain ⟨j, hj, rfl⟩ := List.getElem_of_mem hk
    simp only [List.length_take] at hj
    have hjl : j < ks.length := by omega
    rw [List.getElem_take]
    exact below_lt hjl (by omega)
  · intro k hk
    obtain ⟨j, hj, rfl⟩ := List.getElem_of_mem hk
    simp only [List.length_drop] at hj
    have hjl : below ks x + j < ks.length := by omega
    have h1 := below_ge hr (x := x) hjl (Nat.le_add_right _ _)
    rw [List.getElem_drop]
    cases h2 : ltK x ks[below ks x + j] with
    | true => rfl
    | false =>
      have e := ltK_total h1 h2
      exact absurd (e ▸ List.getElem_mem hjl) hx

theorem rises_insAt {ks : List ByteArray} {x : ByteArray} (hr : Rises ks) (hx : x ∉ ks) : Rises (insAt ks (below ks x) x) := by
  obtain ⟨h1, h2⟩ := below_split hr hx
  have hr' : Rises (ks.take (below ks x) ++ ks.drop (below ks x)) := by rw [List.take_append_drop]; exact hr
  unfold Rises at hr' ⊢
  rw [List.pairwise_append] at hr'
  unfold insAt
  rw [List.pairwise_append]
  refine ⟨hr'.1, List.pairwise_cons.2 ⟨h2, hr'.2.1⟩, ?_⟩
  intro a ha b hb
  rcases List.mem_cons.1 hb with rfl | hb
  · exact h1 a ha
  · exact ltK_trans (h1 a ha) (h2 b hb)

theorem mem_insAt {ks : List ByteArray} {i : Nat} {x k : ByteArray} : k ∈ insAt ks i x ↔ k = x ∨ k ∈ ks := by
  unfold insAt
  rw [List.mem_append, List.mem_cons]
  constructor
  · rintro (h | h | h)
    · exact .inr (List.mem_of_mem_take h)
    · exact .inl h
    · exact .inr (List.mem_of_mem_drop h)
  · rintro (h | h)
    · exact .inr (.inl h)
    · have : k ∈ ks.take i ++ ks.drop i := by rw [List.take_append_drop]; exact h
      rcases List.mem_append.1 this with h | h
      · exact .inl h
      · exact .inr (.inr h)

theorem memB_insAt (ks : List ByteArray) (i : Nat) (x k : ByteArray) : memB (insAt ks i x) k = (decide (x = k) || memB ks k) := by
  rw [Bool.eq_iff_iff, memB_iff, mem_insAt]
  simp only [Bool.or_eq_true, decide_eq_true_eq, memB_iff]
  constructor
  · rintro (h | h)
    · exact .inl h.symm
    · exact .inr h
  · rintro (h | h)
    · exact .inl h.symm
    · exact .inr h

/-- What is tied between the list of keys and the versions. -/
structure Tied (R : Rep) : Prop where
  rises : Rises R.keys
  keys : ∀ k, memB R.keys k = (look R.hist k).isSome
  filled : ∀ p ∈ R.hist, p.2.vers ≠ []

/-- R' is R, but that each key of ks has one version more. -/
structure Grew (R : Rep) (ks : List ByteArray) (ver : ByteArray → Ver) (R' : Rep) : Prop where
  same : R' = { R with kv := R'.kv, keys := R'.keys, vm := R'.vm, hist := R'.hist }
  vers : ∀ k, versOf R'.hist k = if memB ks k then versOf R.hist k ++ [ver k] else versOf R.hist k
  tied : Tied R'

theorem Grew.refl {R : Rep} (h : Tied R) (ver : ByteArray → Ver) : Grew R [] ver R := ⟨rfl, fun k => by simp [memB], h⟩

theorem versOf_put (hist : List (ByteArray × HsR)) (key k : ByteArray) (x : HsR) : versOf (put hist key x) k = if key = k then x.vers else versOf hist k := by
  unfold versOf
  rw [look_put]
  split <;> simp_all

theorem memB_snoc (ks : List ByteArray) (x k : ByteArray) : memB (ks ++ [x]) k = (memB ks k || decide (x = k)) := by
  simp [memB]

/-- One version more. -/
theorem Grew.snoc {R Rj : Rep} {ks : List ByteArray} {ver : ByteArray → Ver} {key : ByteArray} {w : World} (h : Grew R ks ver Rj) (hw : StoreAt w Rj) (hn : memB ks key = false) (kv' sl' : Value) (b : Nat) :
    Grew R (ks ++ [key]) ver { Rj with kv := kv', keys := (if memB Rj.keys key then Rj.keys else insAt Rj.keys (below Rj.keys key) key), vm := some b, hist := put Rj.hist key ⟨sl', versOf Rj.hist key ++ [ver key]⟩ } := by
  have hs := h.same
  refine ⟨?_, fun k => ?_, ⟨?_, fun k => ?_, fun p hp => ?_⟩⟩
  · conv => lhs; rw [hs]
  · show versOf (put Rj.hist key ⟨sl', versOf Rj.hist key ++ [ver key]⟩) k = _
    rw [versOf_put, memB_snoc]
    by_cases e : key = k
    · subst e
      rw [if_pos rfl]
      simp only [decide_true, Bool.or_true, if_true]
      rw [h.vers, hn]
      simp
    · rw [if_neg e, h.vers]
      simp [e]
  · show Rises (if memB Rj.keys key then Rj.keys else insAt Rj.keys (below Rj.keys key) key)
    split
    · exact h.tied.rises
    · rename_i hm
      exact rises_insAt h.tied.rises (fun hx => hm ((memB_iff _ _).2 hx))
  · show memB (if memB Rj.keys key then Rj.keys else insAt Rj.keys (below Rj.keys key) key) k = (look (put Rj.hist key _) k).isSome
    rw [look_put]
    by_cases e : key = k
    · subst e
      rw [if_pos rfl]
      split
      · rename_i hm; simpa using hm
      · rw [memB_insAt]; simp
    · rw [if_neg e, ← h.tied.keys k]
      split
      · rfl
      · rw [memB_insAt]; simp [e]
  · have hp' : p ∈ put Rj.hist key ⟨sl', versOf Rj.hist key ++ [ver key]⟩ := hp
    rcases mem_put (hist_nodup hw.past) hp' with rfl | ⟨h1, _⟩
    · simp
    · exact h.tied.filled p h1

/-- Add, whatever the key has. -/
theorem add_any (R : Rep) (key : ByteArray) (v : Ver) (w : World) (h : StoreAt w R) (t : Tied R) (hl : R.keys.length < 1000000000000) (hv : (versOf R.hist key).length < 1000000000000) :
    Calls Try.prog 69 #[.pointer (some ⟨R.sb, 7, none⟩), .string key, .agg #[.int .i64 v.state, .string v.value, .bool v.gone]] w fun e w' => e = .returned (.tuple #[]) ∧ AddPost R key v w w' := by
  cases hx : look R.hist key with
  | some x =>
    have hm : memB R.keys key = true := by rw [t.keys, hx]; rfl
    have hvl : versOf R.hist key = x.vers := by unfold versOf; rw [hx]; rfl
    exact add_known R key v x w h hx hm (by rw [← hvl]; exact hv)
  | none =>
    have hm : memB R.keys key = false := by rw [t.keys, hx]; rfl
    cases hvm : R.vm with
    | some b => exact add_new R key v b w h hvm hx hm t.rises hl
    | none => exact add_first R key v w h hvm hm t.rises hl

end Go.Proofs.Ytfcocbcihhdbkaa

/- become: what a work has put and deleted becomes the next state. -/
namespace Go.Proofs.Ytfcocbcihhdbkaa
open Go.RowKit

/-- the step that takes one version back -/
def clo (kb : Nat) : Value := .func (.func 70) #[] #[.pointer (some ⟨kb, 0, none⟩), .pointer (some ⟨kb + 1, 0, none⟩)]

/-- How it stands when j keys have been added. -/
structure BecomeAt (w : World) (R : Rep) (cb : Nat) (fs0 : List Value) (C0 : List Nat) (v : Value) (ks : List ByteArray) (ver : ByteArray → Ver) (j : Nat) (wr : World) (Rj : Rep) (kbs C : List Nat) : Prop where
  store : StoreAt wr Rj
  grew : Grew R (ks.take j) ver Rj
  chg : Chg wr cb (fs0 ++ kbs.map clo) C
  len : kbs.length = j
  boxes : ∀ i (h : i < kbs.length), wr.heap[kbs[i]]? = some (.cells #[.pointer (some ⟨R.sb, 0, none⟩)] 23 (0, 0)) ∧ wr.heap[kbs[i] + 1]? = some (.cells #[.string (ks.getD i ByteArray.empty)] 9 (0, 0))
  row : Row wr 9 1 v ks.length (ks.map Value.string)
  keeps : Keeps (fun k => k ∈ R.fp ∨ k ∈ C0) w wr
  fpC : ∀ k ∈ C, k ∉ Rj.fp
  fpE : ∀ k ∈ Rj.fp, k ∈ R.fp ∨ w.heap.size ≤ k
  cE : ∀ k ∈ C, k ∈ C0 ∨ w.heap.size ≤ k
  apart : ∀ k, (v.ownBlock = some k ∨ k ∈ kbs ∨ ∃ b ∈ kbs, k = b + 1) → k ∉ Rj.fp ∧ k ∉ C
  klen : Rj.keys.length ≤ R.keys.length + j

theorem Grew.sb {R Rj : Rep} {ks : List ByteArray} {ver : ByteArray → Ver} (h : Grew R ks ver Rj) : Rj.sb = R.sb ∧ Rj.works = R.works ∧ Rj.now = R.now := by
  have := h.same
  exact ⟨by rw [this], by rw [this], by rw [this]⟩

/-- The blocks behind Add. -/
theorem addFp {R : Rep} {key : ByteArray} {kv' sl' : Value} {keys' : List ByteArray} {b : Nat} {vs' : List Ver} {n : Nat} (c1 : ∀ g, kv'.ownBlock = some g → R.kv.ownBlock = some g ∨ n ≤ g) (c2 : ∀ g, sl'.ownBlock = some g → (slOf R.hist key).ownBlock = some g ∨ n ≤ g) (c3 : R.vm = some b ∨ R.vm = none ∧ n ≤ b) :
    ∀ k ∈ Rep.fp { R with kv := kv', keys := keys', vm := some b, hist := put R.hist key ⟨sl', vs'⟩ }, k ∈ R.fp ∨ n ≤ k := by
  intro k hk
  rw [(fp_perm { R with kv := kv', keys := keys', vm := some b, hist := put R.hist key ⟨sl', vs'⟩ } key).mem_iff] at hk
  rw [(fp_perm R key).mem_iff]
  have e1 : slOf (put R.hist key ⟨sl', vs'⟩) key = sl' := by unfold slOf; rw [look_put_same]; rfl
  have hk' : k ∈ kv'.ownBlock.toList ++ ((slOf (put R.hist key ⟨sl', vs'⟩) key).ownBlock.toList ++ (R.sb :: (R.fpWorks ++ ([b] ++ (del (put R.hist key ⟨sl', vs'⟩) key).flatMap (fun p => p.2.sl.ownBlock.toList))))) := hk
  rw [e1, del_put] at hk'
  simp only [List.mem_append, List.mem_cons, List.not_mem_nil, or_false, Option.mem_toList, Rep.restOf] at hk' ⊢
  rcases hk' with h | h | h | h | h | h
  · rcases c1 k h with h | h
    · exact .inl (.inl h)
    · exact .inr h
  · rcases c2 k h with h | h
    · exact .inl (.inr (.inl h))
    · exact .inr h
  · exact .inl (.inr (.inr (.inl h)))
  · exact .inl (.inr (.inr (.inr (.inl h))))
  · subst h
    rcases c3 with h | ⟨_, h⟩
    · exact .inl (.inr (.inr (.inr (.inr (.inl h)))))
    · exact .inr h
  · exact .inl (.inr (.inr (.inr (.inr (.inr h)))))

/-- One key more. -/
theorem BecomeAt.next {w wr wa wb wc : World} {R Rj : Rep} {cb : Nat} {fs0 : List Value} {C0 C C' kbs : List Nat} {v : Value} {ks : List ByteArray} {ver : ByteArray → Ver} {j q : Nat} {key : ByteArray} (h : BecomeAt w R cb fs0 C0 v ks ver j wr Rj kbs C) (hj : j < ks.length) (hkey : key = ks.getD j ByteArray.empty) (hnew : memB (ks.take j) key = false)
    (ha : Keeps (fun _ => False) wr wa) (hq : wr.heap.size ≤ q) (hsb : wa.heap[q]? = some (.cells #[.pointer (some ⟨R.sb, 0, none⟩)] 23 (0, 0))) (hkb : wa.heap[q + 1]? = some (.cells #[.string key] 9 (0, 0))) (hz : q + 1 < wa.heap.size)
    (hadd : AddPost Rj key (ver key) wa wb) (hkc : Keeps (· ∈ C) wb wc) (hcc : Chg wc cb (fs0 ++ kbs.map clo ++ [clo q]) C') (hC' : ∀ k ∈ C', k ∈ C ∨ wb.heap.size ≤ k) :
    ∃ R', BecomeAt w R cb fs0 C0 v ks ver (j + 1) wc R' (kbs ++ [q]) C' := by
  obtain ⟨kv', b, sl', hS, hkp, c1, c2, c3⟩ := hadd
  have hwz : w.heap.size ≤ wr.heap.size := h.keeps.size
  have hsz := hkp.size
  have hCl := h.chg.lt
  have hfpl := fp_lt h.store
  have hvl : ∀ k, v.ownBlock = some k → k < wr.heap.size := fun k hk => h.row.lt hk
  have hbl : ∀ i (hi : i < kbs.length), kbs[i] + 1 < wr.heap.size := fun i hi => (Array.getElem?_eq_some_iff.1 (h.boxes i hi).2).1
  have hfp' := addFp (R := Rj) (key := key) (keys' := (if memB Rj.keys key then Rj.keys else insAt Rj.keys (below Rj.keys key) key)) (vs' := versOf Rj.hist key ++ [ver key]) c1 c2 c3
  generalize hR' : ({ Rj with kv := kv', keys := (if memB Rj.keys key then Rj.keys else insAt Rj.keys (below Rj.keys key) key), vm := some b, hist := put Rj.hist key ⟨sl', versOf Rj.hist key ++ [ver key]⟩ } : Rep) = R' at hS hfp'
  have hCfp : ∀ k ∈ C, k ∉ R'.fp := fun k hk hf => by
    rcases hfp' k hf with h1 | h1
    · exact h.fpC k hk h1
    · have := hCl k hk; omega
  have htake : ks.take (j + 1) = ks.take j ++ [key] := by
    rw [List.take_succ_eq_append_getElem hj, hkey]
    simp [hj]
  -- a block that is none of the store's and none of the change's
  have hold : ∀ k, k < wr.heap.size → k ∉ Rj.fp → k ∉ C → wc.heap[k]? = wr.heap[k]? := fun k hk h1 h2 =>
    ((hkc.block k (by omega) h2).trans (hkp.block k (by omega) h1)).trans (ha.block k hk (fun h => h))
  have hmem : ∀ k, k ∈ kbs → k + 1 < wr.heap.size := fun k hk => by
    obtain ⟨i, hi, rfl⟩ := List.getElem_of_mem hk
    exact hbl i hi
  refine ⟨R', hS.kept hkc (fun k hk hc => hCfp k hc hk), ?_, ?_, by simp [h.len], ?_, ?_, ?_, ?_, ?_, ?_, ?_, ?_⟩
  · rw [htake, ← hR']
    exact h.grew.snoc h.store hnew kv' sl' b
  · have e : fs0 ++ (kbs ++ [q]).map clo = fs0 ++ kbs.map clo ++ [clo q] := by simp
    rw [e]
    exact hcc
  · intro i hi
    simp only [List.length_append, List.length_cons, List.length_nil] at hi
    by_cases hil : i < kbs.length
    · rw [List.getElem_append_left hil]
      obtain ⟨a1, a2⟩ := h.apart kbs[i] (.inr (.inl (List.getElem_mem _)))
      obtain ⟨a3, a4⟩ := h.apart (kbs[i] + 1) (.inr (.inr ⟨_, List.getElem_mem _, rfl⟩))
      rw [hold _ (by have := hbl i hil; omega) a1 a2, hold _ (hbl i hil) a3 a4]
      exact h.boxes i hil
    · have hie : i = kbs.length := by omega
      subst hie
      rw [List.getElem_append_right (Nat.le_refl _)]
      simp only [Nat.sub_self, List.getElem_cons_zero]
      refine ⟨?_, ?_⟩
      · rw [hkc.block _ (by omega) (fun hc => by have := hCl _ hc; omega), hkp.block _ (by omega) (fun hc => by have := hfpl _ hc; omega), hsb]
      · rw [hkc.block _ (by omega) (fun hc => by have := hCl _ hc; omega), hkp.block _ hz (fun hc => by have := hfpl _ hc; omega), hkb, h.len, hkey]
  · refine ((h.row.kept ha (fun _ _ h => h)).kept hkp (fun g hg hf => ?_)).kept hkc (fun g hg hf => ?_)
    · exact (h.apart g (.inl hg)).1 hf
    · exact (h.apart g (.inl hg)).2 hf
  · refine ((h.keeps.tr ha (fun _ h => h.elim)).trans hkp (fun k hk hf => ?_)).trans hkc (fun k hk hf => ?_)
    · rcases h.fpE k hf with h1 | h1
      · exact .inl h1
      · omega
    · rcases h.cE k hf with h1 | h1
      · exact .inr h1
      · omega
  · intro k hk hf
    rcases hC' k hk with h1 | h1
    · exact hCfp k h1 hf
    · have := fp_lt hS k hf; omega
  · intro k hk
    rcases hfp' k hk with h1 | h1
    · exact h.fpE k h1
    · right; omega
  · intro k hk
    rcases hC' k hk with h1 | h1
    · exact h.cE k h1
    · right; omega
  · intro k hk
    have hkl : k < wr.heap.size ∧ k ∉ Rj.fp ∧ k ∉ C ∨ wr.heap.size ≤ k ∧ k < wa.heap.size := by
      rcases hk with hk | hk | ⟨b, hk, rfl⟩
      · exact .inl ⟨hvl k hk, h.apart _ (.inl hk)⟩
      · rcases List.mem_append.1 hk with hk | hk
        · exact .inl ⟨by have := hmem k hk; omega, h.apart _ (.inr (.inl hk))⟩
        · have e : k = q := by simpa using hk
          exact .inr ⟨by omega, by omega⟩
      · rcases List.mem_append.1 hk with hk | hk
        · exact .inl ⟨hmem b hk, h.apart _ (.inr (.inr ⟨b, hk, rfl⟩))⟩
        · have e : b = q := by simpa using hk
          exact .inr ⟨by omega, by omega⟩
    rcases hkl with ⟨l1, l2, l3⟩ | ⟨l1, l2⟩
    · refine ⟨fun hf => ?_, fun hc => ?_⟩
      · rcases hfp' k hf with h1 | h1
        · exact l2 h1
        · have := ha.size; omega
      · rcases hC' k hc with h1 | h1
        · exact l3 h1
        · have := ha.size; omega
    · refine ⟨fun hf => ?_, fun hc => ?_⟩
      · rcases hfp' _ hf with h1 | h1
        · have := hfpl _ h1; omega
        · omega
      · rcases hC' _ hc with h1 | h1
        · have := hCl _ h1; omega
        · omega
  · have hkl := h.klen
    rw [← hR']
    show (if memB Rj.keys key then Rj.keys else insAt Rj.keys (below Rj.keys key) key).length ≤ _
    split
    · omega
    · rw [insAt_length _ _ _ (below_le _ _)]
      omega

end Go.Proofs.Ytfcocbcihhdbkaa

/- become, walked. -/
namespace Go.Proofs.Ytfcocbcihhdbkaa
open Go.RowKit

/-- what becomes of a key that a work has written: its version, with the new state's number -/
def verOf (writes : List (ByteArray × Ver)) (state : Int) (key : ByteArray) : Ver := { ((look writes key).getD Ver.zero) with state := state }

/-- What become leaves: it has found a clash at the j-th key; or all have been added. -/
def BecomePost (w : World) (R : Rep) (x : WkR) (cb : Nat) (fs0 : List Value) (C0 : List Nat) (e : Ending) (w' : World) : Prop :=
  ∃ v ks, Rises ks ∧ ks.Perm (x.writes.map (·.1)) ∧
    ((∃ j Rj kbs C, ∃ h : j < ks.length, x.began < lastOf (versOf R.hist ks[j]) ∧ e = .returned (.int .i64 4) ∧ BecomeAt w R cb fs0 C0 v ks (verOf x.writes (R.now + 1)) j w' Rj kbs C) ∨
     ((∀ k ∈ ks, lastOf (versOf R.hist k) ≤ x.began) ∧ e = .returned (.int .i64 0) ∧ ∃ Rn fs C, StoreAt w' { Rn with now := R.now + 1 } ∧ Grew R ks (verOf x.writes (R.now + 1)) Rn ∧ Chg w' cb fs C ∧ fs.length ≤ fs0.length + ks.length + 1 ∧
        Keeps (fun k => k ∈ R.fp ∨ k ∈ C0) w w' ∧ (∀ k ∈ C, k ∉ Rn.fp) ∧ (∀ k ∈ Rn.fp, k ∈ R.fp ∨ w.heap.size ≤ k) ∧ (∀ k ∈ C, k ∈ C0 ∨ w.heap.size ≤ k)))

theorem Row.form {w : World} {e : TypeId} {size : Nat} {v : Value} {n : Nat} {xs : List Value} (h : Row w e size v n xs) : ∃ a cap, v = .slice a n cap ∧ n ≤ maxLen ∧ (0 < n → ∃ g, a = some ⟨g, 0, none⟩) := by
  rcases h.2 with ⟨rfl, rfl⟩ | ⟨g, cap, cur, rfl, _, h1, h2, _⟩
  · exact ⟨none, 0, rfl, by unfold maxLen; omega, fun h => by omega⟩
  · exact ⟨_, cap, rfl, by omega, fun _ => ⟨g, rfl⟩⟩

/-- Ahead of the first key. -/
theorem becomeAt_start {w w1 : World} {R : Rep} {cb : Nat} {C0 : List Nat} {v : Value} {ks : List ByteArray} {ver : ByteArray → Ver} (h : StoreAt w R) (t : Tied R) (hc : Chg w cb [] C0) (hC : ∀ k ∈ C0, k ∉ R.fp) (hk0 : Keeps (fun _ => False) w w1) (hr : Row w1 9 1 v ks.length (ks.map Value.string))
    (hv : ∀ k, v.ownBlock = some k → w.heap.size ≤ k) : BecomeAt w R cb [] C0 v ks ver 0 w1 R [] C0 := by
  refine ⟨h.kept hk0 (fun _ _ h => h), by simpa using Grew.refl t ver, by simpa using hc.kept hk0 (fun _ _ h => h), rfl, fun i hi => by simp at hi, hr, hk0.mono (fun _ _ h => h.elim), hC, fun k hk => .inl hk, fun k hk => .inl hk, ?_, Nat.le_refl _⟩
  intro k hk'
  have hfl := fp_lt h
  have hcl := hc.lt
  rcases hk' with hk' | hk' | ⟨_, hk', _⟩
  · have := hv k hk'
    exact ⟨fun hf => by have := hfl _ hf; omega, fun hf => by have := hcl _ hf; omega⟩
  · simp at hk'
  · simp at hk'

theorem BecomeAt.kept {w wr wr' : World} {R Rj : Rep} {cb : Nat} {fs0 : List Value} {C0 C kbs : List Nat} {v : Value} {ks : List ByteArray} {ver : ByteArray → Ver} {j : Nat} (h : BecomeAt w R cb fs0 C0 v ks ver j wr Rj kbs C) (hk : Keeps (fun _ => False) wr wr') : BecomeAt w R cb fs0 C0 v ks ver j wr' Rj kbs C :=
  ⟨h.store.kept hk (fun _ _ h => h), h.grew, h.chg.kept hk (fun _ _ h => h), h.len, fun i hi => ⟨(hk.block _ (Array.getElem?_eq_some_iff.1 (h.boxes i hi).1).1 (fun h => h)).trans (h.boxes i hi).1, (hk.block _ (Array.getElem?_eq_some_iff.1 (h.boxes i hi).2).1 (fun h => h)).trans (h.boxes i hi).2⟩, h.row.kept hk (fun _ _ h => h), h.keeps.tr hk (fun _ h => h.elim), h.fpC, h.fpE, h.cE, h.apart, h.klen⟩

theorem take_fresh {ks : List ByteArray} (hr : Rises ks) {j : Nat} (hj : j < ks.length) {key : ByteArray} (hk : ks[j] = key) : memB (ks.take j) key = false := by
  rw [Bool.eq_false_iff]
  intro h
  rw [memB_iff] at h
  obtain ⟨i, hi, e⟩ := List.getElem_of_mem h
  simp only [List.length_take] at hi
  rw [List.getElem_take] at e
  have := List.pairwise_iff_getElem.1 hr i j (by omega) hj (by omega)
  rw [e, hk, ltK_irrefl] at this
  cases this

theorem written_look {R : Rep} {n : Int} {x : WkR} {ks : List ByteArray} {j : Nat} {key : ByteArray} (g : Good R) (hx : (n, x) ∈ R.works) (hp : ks.Perm (x.writes.map (·.1))) (hj : j < ks.length) (hk : ks[j] = key) : ∃ q2 q3, look x.writes key = some ⟨0, q2, q3⟩ := by
  have hm : key ∈ x.writes.map (·.1) := hp.mem_iff.1 (hk ▸ List.getElem_mem hj)
  cases hl : look x.writes key with
  | none =>
    obtain ⟨p, hp1, e⟩ := List.mem_map.1 hm
    exact absurd e (look_none.1 hl p hp1)
  | some v =>
    have := (g.wkeys _ hx _ (look_mem hl)).2.2
    obtain ⟨st, q2, q3⟩ := v
    have hst : st = 0 := this
    subst hst
    exact ⟨q2, q3, rfl⟩

theorem vers_small {R : Rep} (g : Good R) (key : ByteArray) : (versOf R.hist key).length < 1000000000000 := by
  unfold versOf
  cases hl : look R.hist key with
  | none => simp
  | some y =>
    have hm := look_mem hl
    have h2 := rising_length y.vers 0 R.now (g.rising _ hm) (g.states _ hm)
    have h3 := g.now
    simp only [Option.map_some, Option.getD_some]
    omega

theorem AddPost.keeps {R : Rep} {key : ByteArray} {v : Ver} {w w' : World} (h : AddPost R key v w w') : Keeps (· ∈ R.fp) w w' := by
  obtain ⟨_, _, _, _, h, _⟩ := h
  exact h

/-- add's boxes. -/
def saddW (w : World) (sb : Nat) (key : ByteArray) (v : Ver) : World := (((w.alloc (.cells #[.pointer (some ⟨sb, 0, none⟩)] 23)).alloc (.cells #[.string key] 9)).alloc (.cells #[.int .i64 v.state, .string v.value, .bool v.gone] 79))

theorem sadd_heap (w : World) (o1 o2 o3 : Obj) : (((w.alloc o1).alloc o2).alloc o3).heap[w.heap.size]? = some o1 ∧ (((w.alloc o1).alloc o2).alloc o3).heap[w.heap.size + 1]? = some o2 ∧ (((w.alloc o1).alloc o2).alloc o3).heap[w.heap.size + 2]? = some o3 := by
  refine ⟨?_, ?_, ?_⟩
  · rw [Below.heap_alloc _ _ _ (by simp; omega), Below.heap_alloc _ _ _ (by simp)]
    exact heap_new w o1
  · rw [Below.heap_alloc _ _ _ (by simp)]
    have := heap_new (w.alloc o1) o2
    simpa using this
  · have := heap_new ((w.alloc o1).alloc o2) o3
    simpa using this

/-- The boxes of add behind Add. -/
theorem sadd_boxes {w W wb : World} {R : Rep} {x1 x2 y1 y2 y3 : Value} {t1 t2 t3 : TypeId} (hS : StoreAt w R) (hW : Keeps (fun _ => False) (((w.alloc (.cells #[x1] t1)).alloc (.cells #[x2] t2)).alloc (.cells #[y1, y2, y3] t3)) W)
    (hk : Keeps (· ∈ R.fp) W wb) :
    wb.cell? ⟨w.heap.size, 0, none⟩ = some x1 ∧ wb.cell? ⟨w.heap.size + 1, 0, none⟩ = some x2 ∧ wb.cell? ⟨w.heap.size + 1 + 1, 0, none⟩ = some y1 ∧ wb.cell? ⟨w.heap.size + 1 + 1, 1, none⟩ = some y2 ∧ wb.cell? ⟨w.heap.size + 1 + 1, 2, none⟩ = some y3 := by
  have hfl := fp_lt hS
  obtain ⟨e1, e2, e3⟩ := sadd_heap w (.cells #[x1] t1) (.cells #[x2] t2) (.cells #[y1, y2, y3] t3)
  have hz := hW.size
  simp at hz
  have g : ∀ k o, w.heap.size ≤ k → k < w.heap.size + 3 → (((w.alloc (.cells #[x1] t1)).alloc (.cells #[x2] t2)).alloc (.cells #[y1, y2, y3] t3)).heap[k]? = some o → wb.heap[k]? = some o := fun k o h1 h2 h3 => by
    rw [hk.block k (by omega) (fun e => by have := hfl _ e; omega), hW.block k (by simp; omega) (fun h => h)]
    exact h3
  exact ⟨cell_of_heap (g _ _ (by omega) (by omega) e1) 0, cell_of_heap (g _ _ (by omega) (by omega) e2) 0, cell_of_heap (g _ _ (by omega) (by omega) e3) 0, cell_of_heap (g _ _ (by omega) (by omega) e3) 1, cell_of_heap (g _ _ (by omega) (by omega) e3) 2⟩

/-- What add leaves. -/
def SAddPost (R : Rep) (key : ByteArray) (v : Ver) (cb : Nat) (fs : List Value) (C : List Nat) (w w' : World) : Prop :=
  ∃ wa wb C', Keeps (fun _ => False) w wa ∧ wa.heap[w.heap.size]? = some (.cells #[.pointer (some ⟨R.sb, 0, none⟩)] 23 (0, 0)) ∧ wa.heap[w.heap.size + 1]? = some (.cells #[.string key] 9 (0, 0)) ∧ w.heap.size + 1 < wa.heap.size ∧
    AddPost R key v wa wb ∧ Keeps (· ∈ C) wb w' ∧ Chg w' cb (fs ++ [clo w.heap.size]) C' ∧ ∀ k ∈ C', k ∈ C ∨ wb.heap.size ≤ k

theorem sadd_post {w W wb w' : World} {R : Rep} {key : ByteArray} {v : Ver} {cb : Nat} {fs : List Value} {C C' : List Nat} (hW : Keeps (fun _ => False) (saddW w R.sb key v) W) (hadd : AddPost R key v W wb) (hk : Keeps (· ∈ C) wb w') (hc : Chg w' cb (fs ++ [clo w.heap.size]) C') (hC : ∀ k ∈ C', k ∈ C ∨ wb.heap.size ≤ k) : SAddPost R key v cb fs C w w' := by
  obtain ⟨e1, e2, e3⟩ := sadd_heap w (.cells #[.pointer (some ⟨R.sb, 0, none⟩)] 23) (.cells #[.string key] 9) (.cells #[.int .i64 v.state, .string v.value, .bool v.gone] 79)
  have hz := hW.size
  simp [saddW] at hz
  have h0 : Keeps (fun _ => False) w (saddW w R.sb key v) := (((Keeps.refl (fun _ => False) w).al _).al _).al _
  refine ⟨W, wb, C', h0.tr hW (fun _ h => h), ?_, ?_, by omega, hadd, hk, hc, hC⟩
  · rw [hW.block _ (by simp [saddW]; omega) (fun h => h)]
    exact e1
  · rw [hW.block _ (by simp [saddW]) (fun h => h)]
    exact e2

set_option maxRecDepth 100000 in
set_option maxHeartbeats 1000000 in
/-- add: a version more, and the step that takes it back -/
theorem sadd_any (R : Rep) (key : ByteArray) (st : Int) (q2 : ByteArray) (q3 : Bool) (cb : Nat) (fs : List Value) (C : List Nat) (w : World) (h : StoreAt w R) (t : Tied R) (hkl : R.keys.length < 1000000000000) (hvl : (versOf R.hist key).length < 1000000000000) (hc : Chg w cb fs C) (hC : ∀ k ∈ C, k ∉ R.fp) (hl : fs.length < 1000000000000) :
    Calls Try.prog 52 #[.pointer (some ⟨R.sb, 0, none⟩), .pointer (some ⟨cb, 0, none⟩), .string key, .agg #[.int .i64 st, .string q2, .bool q3]] w fun e w' => e = .returned (.tuple #[]) ∧ SAddPost R key ⟨st, q2, q3⟩ cb fs C w w' := by
  have HADD : Hid (∀ W, Keeps (fun _ => False) (saddW w R.sb key ⟨st, q2, q3⟩) W → Calls Try.prog 69 #[.pointer (some ⟨R.sb, 7, none⟩), .string key, .agg #[.int .i64 st, .string q2, .bool q3]] W fun e w' => e = .returned (.tuple #[]) ∧ AddPost R key ⟨st, q2, q3⟩ W w') := fun W hW =>
    add_any R key ⟨st, q2, q3⟩ W (h.kept (((((Keeps.refl (fun _ => False) w).al _).al _).al _).tr hW (fun _ h => h)) (fun _ _ h => h)) t hkl hvl
  have HST : Hid (StoreAt w R) := h
  have HC : Hid (Chg w cb fs C) := hc
  have HCF : Hid (∀ k ∈ C, k ∉ R.fp) := hC
  have HL : Hid (fs.length < 1000000000000) := hl
  have hlt := h.lt
  have hmf : ∀ (fn : Fn) (first cap : Array Value) (w : World), (Instr.makeFunc fn first cap).run Try.prog w = .ok (.func fn first cap) w := fun _ _ _ _ => rfl
  clear h t hkl hvl hc hC hl
  go_enter Try.func52, Try.ntmps52
  go_wp2_with fail
  obtain ⟨-, -, hv2, hv3, hv4⟩ := sadd_boxes (wb := (saddW w R.sb key ⟨st, q2, q3⟩).drew) HST.out (Keeps.drew (fun _ => False) (saddW w R.sb key ⟨st, q2, q3⟩)) (Keeps.refl _ _)
  simp only [saddW] at hv2 hv3 hv4
  go_region_held3 (fun W => W.cell? ⟨w.heap.size, 0, none⟩ = some (.pointer (some ⟨R.sb, 0, none⟩)) ∧ W.cell? ⟨w.heap.size + 1, 0, none⟩ = some (.string key) ∧ W.cell? ⟨w.heap.size + 1 + 1, 0, none⟩ = some (.int .i64 st) ∧ W.cell? ⟨w.heap.size + 1 + 1, 1, none⟩ = some (.string q2) ∧ W.cell? ⟨w.heap.size + 1 + 1, 2, none⟩ = some (.bool q3)) (go_keep) (first | (go_at_call 69; refine (HADD.out _ ((Keeps.refl (fun _ => False) _).dr)).mono ?_; rintro e wb ⟨rfl, hadd⟩; obtain ⟨hbx0, hbx1, hbx2, hbx3, hbx4⟩ := sadd_boxes HST.out ((Keeps.refl (fun _ => False) _).dr) hadd.keeps; have HAP := hid hadd; clear hadd))
  have hchb : Chg wb cb fs C := HC.out.kept ((((((Keeps.refl (fun k => k ∈ R.fp) w).al _).al _).al _).dr).tr HAP.out.keeps (fun _ h => h)) (fun k hk hf => HCF.out k hk hf)
  have HUB := undoBy_any cb fs C (.func 70) #[.pointer (some ⟨w.heap.size, 0, none⟩), .pointer (some ⟨w.heap.size + 1, 0, none⟩)] wb hchb HL.out
  clear hchb
  go_wp2_with (go_at_call 42; go_must (refine HUB.mono ?_; rintro e wc ⟨rfl, C', hcc, hkc, hC'⟩))
  go_end0
  exact ⟨rfl, sadd_post ((Keeps.refl (fun _ => False) _).dr) HAP.out hkc hcc hC'⟩

theorem become_end {w wr wc : World} {R Rj : Rep} {x : WkR} {cb : Nat} {fs' : List Value} {C0 C C' kbs : List Nat} {v : Value} {ks : List ByteArray} (hris : Rises ks) (hperm : ks.Perm (x.writes.map (·.1)))
    (hlast : ∀ i' (h : i' < ks.length), i' < ks.length → lastOf (versOf R.hist ks[i']) ≤ x.began) (h : BecomeAt w R cb [] C0 v ks (verOf x.writes (R.now + 1)) ks.length wr Rj kbs C) (hfl : fs'.length = ks.length + 1) (hcc : Chg wc cb fs' C')
    (hkc : Keeps (fun k => k ∈ C ∨ k = R.sb) wr wc) (hC' : ∀ k ∈ C', k ∈ C ∨ wr.heap.size ≤ k) (hhp : wc.heap[R.sb]? = (wr.setCell ⟨R.sb, 0, none⟩ (.int .i64 (R.now + 1))).heap[R.sb]?) :
    BecomePost w R x cb [] C0 (.returned (.int .i64 0)) wc := by
  obtain ⟨hsb, hwks, hnw⟩ := h.grew.sb
  have hfl' := fp_lt h.store
  have hnd := h.store.nodup
  have htop : wc.heap[Rj.sb]? = some (.cells (topCells { Rj with now := R.now + 1 }) 66 (0, 0)) := by
    have := h.store.set (R' := { Rj with now := R.now + 1 }) rfl (i := 0) (v := .int .i64 (R.now + 1)) rfl
    rw [hsb] at this ⊢
    rw [hhp]
    exact this
  have hst : StoreAt wc { Rj with now := R.now + 1 } := h.store.nums hkc (fun k hk hb => by
    rcases hb with hb | rfl
    · exact h.fpC k hb (by simp only [Rep.fp, List.mem_cons]; exact .inr hk)
    · rw [← hsb] at hk
      exact (List.nodup_cons.1 hnd).1 hk) (R.now + 1) Rj.floor Rj.begun htop
  refine ⟨v, ks, hris, hperm, .inr ⟨fun k hk => ?_, rfl, Rj, fs', C', hst, by have := h.grew; rwa [List.take_length] at this, hcc, by simp; omega, ?_, ?_, h.fpE, ?_⟩⟩
  · obtain ⟨i, hi, rfl⟩ := List.getElem_of_mem hk
    exact hlast i hi hi
  · refine h.keeps.trans hkc (fun i hi hb => ?_)
    rcases hb with hb | rfl
    · rcases h.cE i hb with h1 | h1
      · exact .inr h1
      · omega
    · exact .inl (by simp [Rep.fp])
  · intro k hk hf
    rcases hC' k hk with h1 | h1
    · exact h.fpC k h1 hf
    · have := hfl' k hf; omega
  · intro k hk
    have hwz : w.heap.size ≤ wr.heap.size := h.keeps.size
    rcases hC' k hk with h1 | h1
    · exact h.cE k h1
    · exact .inr (by omega)

set_option maxRecDepth 100000 in
set_option maxHeartbeats 2000000 in
theorem become_any (R : Rep) (n : Int) (x : WkR) (cb : Nat) (C0 : List Nat) (w : World) (h : StoreAt w R) (g : Good R) (t : Tied R) (hx : (n, x) ∈ R.works) (hc : Chg w cb [] C0) (hC : ∀ k ∈ C0, k ∉ R.fp) (hkl : R.keys.length < 900000000000) :
    Calls Try.prog 32 #[.pointer (some ⟨R.sb, 0, none⟩), .pointer (some ⟨cb, 0, none⟩), workPtr x] w (BecomePost w R x cb [] C0) := by
  obtain ⟨c0, c1, hM⟩ := h.works.work hx
  have hnow := g.now
  have h30 := g.writes30 _ hx
  have hwk := g.wkeys _ hx
  have n0 : w.cell? ⟨R.sb, 0, none⟩ = some (.int .i64 R.now) := h.cell 0
  have hlt := h.lt
  have hkeys := keys_core x.blk x.mb (x.writes.map fun q => (q.1, q.2.val)) w c1 hM (fun p hp => by
    obtain ⟨q, hq, rfl⟩ := List.mem_map.1 hp
    have := (hwk q hq).1
    simp [keyB] at this
    unfold maxLen
    show q.1.size ≤ _
    omega) (by simp; simp at h30; omega)
  have hpm : (x.writes.map fun q => (q.1, q.2.val)).map (·.1) = x.writes.map (·.1) := by simp [List.map_map, Function.comp_def]
  rw [hpm] at hkeys
  have HST := hid h
  have HG := hid g
  have HT := hid t
  have HX := hid hx
  have HC := hid hc
  have HCF := hid hC
  have HKL := hid hkl
  obtain ⟨hnow1, hnow2⟩ := hnow
  unfold workPtr
  clear h g t hx hc hC hkl hM c0 c1 hwk h30 hpm
  go_enter Try.func32, Try.ntmps32
  go_wp2_with (go_at_call 38; go_must (refine hkeys.mono ?_; rintro e w1 ⟨v, ks, rfl, hrow, hris, hperm, hk1, hvb⟩; obtain ⟨av, capv, rfl, hnl, hav⟩ := hrow.form))
  have hkn : ks.length ≤ 30 := by
    have h1 := hperm.length_eq
    have h2 := HG.out.writes30 _ HX.out
    simp at h1 h2
    omega
  have hst : BecomeAt w R cb [] C0 (.slice av ks.length capv) ks (verOf x.writes (R.now + 1)) 0 w1 R [] C0 := becomeAt_start HST.out HT.out HC.out HCF.out hk1 hrow (fun k hk => Nat.le_of_lt (hvb k hk))
  have HRIS := hid hris
  have HPERM := hid hperm
  clear hrow hris hperm hk1 hkeys n0 hvb
  go_loopw [19] (fun i wr => ∃ (j : Nat) (Rj : Rep) (kbs C : List Nat), j ≤ ks.length ∧ i = .int .i64 j ∧ (∀ i' (h : i' < ks.length), i' < j → lastOf (versOf R.hist ks[i']) ≤ x.began) ∧ BecomeAt w R cb [] C0 (.slice av ks.length capv) ks (verOf x.writes (R.now + 1)) j wr Rj kbs C) (fun i _ => ks.length - (intOf i).toNat)
  case atStart => exact ⟨0, R, [], C0, Nat.zero_le _, rfl, fun i' _ h => by omega, hst⟩
  case round =>
    obtain ⟨j, Rj, kbs, C, hj, rfl, hlast, hB⟩ := hrel
    have HB := hid hB
    have HLAST := hid hlast
    clear hst hB hlast
    by_cases hjn : j < ks.length
    · obtain ⟨g, rfl⟩ := hav (by omega)
      have hcell : wr.cell? ⟨g, j, none⟩ = some (.string ks[j]) := by
        rw [HB.out.row.cellAt j (by omega)]
        simp [hjn]
      obtain ⟨key, hkey⟩ : ∃ key, ks[j] = key := ⟨_, rfl⟩
      rw [hkey] at hcell
      obtain ⟨hsb, hwks, hnw⟩ := HB.out.grew.sb
      have hnin : memB (ks.take j) key = false := take_fresh HRIS.out hjn hkey
      have hvv : versOf Rj.hist key = versOf R.hist key := by rw [HB.out.grew.vers, hnin]; rfl
      have hxj : (n, x) ∈ Rj.works := by rw [hwks]; exact HX.out
      obtain ⟨e0, e1, eM⟩ := HB.out.store.works.work hxj
      have hxl : x.blk < wr.heap.size := World.block_lt_of_cell? _ _ e0
      have HLC : Hid (∀ W, Keeps (fun _ => False) wr W → Calls Try.prog 51 #[.pointer (some ⟨R.sb, 7, none⟩), .string key] W fun e w' => e = .returned (.int .i64 (lastOf (versOf R.hist key))) ∧ w' = W) := fun W hk => by
        have hS := HB.out.store.kept hk (fun _ _ h => h)
        have := last_core Rj.sb key Rj.vm _ _ (versOf Rj.hist key) W (hS.cell 8) hS.past.histMap rfl (hS.past.slice key) (by rw [hvv]; exact (HG.out.vers key).2)
        rw [hsb, hvv] at this
        exact this
      have HVV := hid hvv
      have HSBJ := hid hsb
      have HNIN := hid hnin
      have HEM := hid eM
      have HKEY := hid hkey
      clear hvv hsb hnw hnin eM hkey hwks hxj
      by_cases hcl : x.began < lastOf (versOf R.hist key)
      · obtain ⟨lv, hlv⟩ : ∃ lv, lastOf (versOf R.hist key) = lv := ⟨_, rfl⟩
        rw [hlv] at HLC hcl
        have HLV := hid hlv
        clear hlv
        go_wp2_with fail
        go_region_held3 (fun W => W.cell? ⟨x.blk, 0, none⟩ = some (.int .i64 x.began)) (go_keep) (first | (go_at_call 51; refine (HLC.out _ ((Keeps.refl (fun _ => False) wr).dr)).mono ?_; rintro e w' ⟨rfl, rfl⟩))
        go_wp2
        go_ret
        refine ⟨.slice (some ⟨g, 0, none⟩) ks.length capv, ks, HRIS.out, HPERM.out, .inl ⟨j, Rj, kbs, C, hjn, ?_, rfl, HB.out.kept ((Keeps.refl (fun _ => False) wr).dr)⟩⟩
        rw [HKEY.out, HLV.out]
        exact hcl
      · have hcl' : lastOf (versOf R.hist key) ≤ x.began := by omega
        have HCL := hid hcl'
        obtain ⟨lv, hlv⟩ : ∃ lv, lastOf (versOf R.hist key) = lv := ⟨_, rfl⟩
        rw [hlv] at HLC hcl' hcl
        clear hlv
        obtain ⟨q2, q3, hq⟩ : ∃ q2 q3, look x.writes key = some ⟨0, q2, q3⟩ := written_look HG.out HX.out HPERM.out hjn HKEY.out
        have hver : verOf x.writes (R.now + 1) key = ⟨R.now + 1, q2, q3⟩ := by unfold verOf; rw [hq]; rfl
        have HVER := hid hver
        have HLKQ : Hid ((look (x.writes.map fun q => (q.1, q.2.val)) key).getD (.agg #[.int .i64 0, .string ByteArray.empty, .bool false]) = .agg #[.int .i64 0, .string q2, .bool q3]) := by
          rw [look_map, hq]
          exact rfl
        have HADD : Hid (∀ W, Keeps (fun _ => False) wr W → Calls Try.prog 52 #[.pointer (some ⟨R.sb, 0, none⟩), .pointer (some ⟨cb, 0, none⟩), .string key, .agg #[.int .i64 (R.now + 1), .string q2, .bool q3]] W fun e w' => e = .returned (.tuple #[]) ∧ SAddPost Rj key ⟨R.now + 1, q2, q3⟩ cb ([] ++ kbs.map clo) C W w') := fun W hk => by
          have := sadd_any Rj key (R.now + 1) q2 q3 cb ([] ++ kbs.map clo) C W (HB.out.store.kept hk (fun _ _ h => h)) HB.out.grew.tied (by have := HB.out.klen; have := HKL.out; omega) (by rw [HVV.out]; exact vers_small HG.out key) (HB.out.chg.kept hk (fun _ _ h => h)) HB.out.fpC (by have := HB.out.len; simp; omega)
          rw [HSBJ.out] at this
          exact this
        clear hq hver
        go_wp2_with fail
        go_region_held3 (fun W => W.cell? ⟨x.blk, 0, none⟩ = some (.int .i64 x.began)) (go_keep) (first | (go_at_call 51; refine (HLC.out _ ((Keeps.refl (fun _ => False) wr).dr)).mono ?_; rintro e w' ⟨rfl, rfl⟩))
        go_wp2_with (first
          | (at_lookup; go_must (refine wpList_lookup_at _ rfl _ _ 74 rfl 9 79 strKeyOk Try.underlying74 Try.underlying9 _ (Try.zeroVersion _) x.mb rfl key rfl _ (HEM.out.kept ((Keeps.refl (fun _ => False) wr).dr) (fun h => h)) ?_; rw [HLKQ.out]))
          | (go_at_call 52; go_must (refine (HADD.out _ (((Keeps.refl (fun _ => False) wr).al _).dr)).mono ?_; rintro e wc ⟨rfl, hs⟩)))
        obtain ⟨wa, wb, C', a1, a2, a3, a4, a5, a6, a7, a8⟩ := hs
        have k1 : Keeps (fun _ => False) wr _ := ((Keeps.refl (fun _ => False) wr).al (.cells #[.int .i64 (R.now + 1), .string q2, .bool q3] 79)).dr
        obtain ⟨R', hN⟩ := HB.out.next (key := key) hjn (by rw [← HKEY.out]; simp [hjn]) HNIN.out (k1.tr a1 (fun _ h => h)) k1.size (by rw [← HSBJ.out]; exact a2) a3 a4 (by rw [HVER.out]; exact a5) a6 a7 a8
        refine ⟨⟨j + 1, R', _, C', by omega, by simp, fun i' h hi => ?_, hN⟩, ?_⟩
        · rcases Nat.lt_or_ge i' j with h1 | h1
          · exact HLAST.out i' h h1
          · obtain rfl : i' = j := by omega
            rw [HKEY.out]
            exact HCL.out
        · simp only [intOf]
          omega
    · obtain rfl : j = ks.length := by omega
      obtain ⟨hsb, hwks, hnw⟩ := HB.out.grew.sb
      have hsC : R.sb ∉ C := fun hf => HB.out.fpC _ hf (by rw [← hsb]; simp [Rep.fp])
      have hlen : ([] ++ kbs.map clo).length = ks.length := by have := HB.out.len; simp [this]
      have hc0 : wr.cell? ⟨R.sb, 0, none⟩ = some (.int .i64 R.now) := by
        have := HB.out.store.cell 0
        rw [hsb] at this
        rw [this]
        simp [topCells, hnw]
      have hf0 : wr.frozen? ⟨R.sb, 0, none⟩ = false := by rw [← hsb]; exact HB.out.store.frozen 0
      have HAS := assign_int cb _ C R.sb 0 R.now (R.now + 1) wr HB.out.chg hc0 hf0 hsC (by rw [hlen]; omega)
      rw [hlen] at HAS
      clear hsC hlen hc0 hf0 hsb hwks hnw
      go_wp2_with (go_at_call 24; go_must (refine HAS.mono ?_; rintro e wc ⟨rfl, fs', C', hfl, hcc, hkc, hC', hhp⟩))
      go_ret
      exact become_end HRIS.out HPERM.out HLAST.out HB.out hfl hcc hkc hC' hhp

end Go.Proofs.Ytfcocbcihhdbkaa

/- The library's Delete, of one key. -/
namespace Go.Proofs
open Go.Shelf
namespace Ytfcocbcihhdbkaa
open Go.RowKit

theorem strsOf_keys (ks : List ByteArray) : (Lib.strsOf (fun j => ks.getD j ByteArray.empty) ks.length).map encStr = ks.map Value.string := by
  apply List.ext_getElem
  · simp [Lib.strsOf]
  · intro i h1 h2
    simp at h2
    simp [Lib.strsOf, h2, encStr]

theorem delete_key (v : Value) (ks : List ByteArray) (i : Nat) (w : World) (h : Row w 9 1 v ks.length (ks.map Value.string)) (hi : i < ks.length) :
    Calls Try.prog 89 #[v, .int .i64 i, .int .i64 ((i : Int) + 1)] w fun e w' => ∃ g cap, v.ownBlock = some g ∧ e = .returned (.slice (some ⟨g, 0, none⟩) (ks.length - 1) cap) ∧ Row w' 9 1 (.slice (some ⟨g, 0, none⟩) (ks.length - 1) cap) (ks.length - 1) ((ks.eraseIdx i).map Value.string) ∧ Keeps (fun k => v.ownBlock = some k) w w' := by
  have hlen2 : ((ks.eraseIdx i).map Value.string).length = (ks.length - 1) * 1 := by rw [List.length_map, List.length_eraseIdx_of_lt hi]; omega
  rcases h.2 with ⟨rfl, h0⟩ | ⟨g, cap, cur, rfl, hg, hnc, hcm, hcs, htake⟩
  · omega
  · have hcur : cap ≤ cur.size := by simpa using hcs
    have hcells : ∀ j, j < ks.length → w.cell? ⟨g, 0 + j, none⟩ = some (.string ((fun j => ks.getD j ByteArray.empty) j)) := by
      intro j hj
      rw [Nat.zero_add, h.cellAt j (by omega)]
      simp [hj]
    have htake' : cur.toList.take ks.length = ks.map Value.string := by simpa using htake
    refine (Any.slices_Delete_string_cells Try.laysNm224 g 0 ks.length cap i (i + 1) (fun j => ks.getD j ByteArray.empty) w hnc (by unfold maxLen at hcm; omega) (by omega) (by omega) hcells (fun j _ => frozen_of_heap hg _)).mono ?_
    rintro e w' ⟨rfl, q, rfl⟩
    have e0 : ks.length - (i + 1 - i) = ks.length - 1 := by omega
    rw [e0]
    have eL : ((Lib.strsOf (fun j => ks.getD j ByteArray.empty) ks.length).take i ++ (Lib.strsOf (fun j => ks.getD j ByteArray.empty) ks.length).drop (i + 1) ++ List.replicate (i + 1 - i) []).map encStr = (ks.eraseIdx i).map Value.string ++ [Value.string ⟨#[]⟩] := by
      rw [show i + 1 - i = 1 from by omega, List.eraseIdx_eq_take_drop_succ]
      simp only [List.map_append, List.map_take, List.map_drop, strsOf_keys]
      rfl
    rw [eL]
    have hg1 : (w.drewN q).heap[g]? = some (.cells cur 9 (0, 0)) := hg
    have hLl : ((ks.eraseIdx i).map Value.string ++ [Value.string ⟨#[]⟩]).length = ks.length := by rw [List.length_append, hlen2]; simp; omega
    have hkd : Keeps (· = g) w (w.drewN q) := ⟨rfl, rfl, rfl, Nat.le_refl _, fun _ _ _ => rfl⟩
    refine ⟨g, cap, rfl, rfl, ⟨hlen2, .inr ⟨g, cap, _, rfl, heap_setCells _ _ g 0 cur hg1, by omega, hcm, by rw [putL_size]; exact hcs, ?_⟩⟩, (hkd.tr (Keeps.setCells _ _ _ _) (fun _ h => h)).mono (fun k _ hk => by have hk' : k = g := hk; simp [Value.ownBlock, hk'])⟩
    rw [putL_toList _ _ _ (by rw [hLl]; omega)]
    simp only [List.take_zero, List.nil_append]
    rw [List.append_assoc, List.take_left' hlen2]

end Ytfcocbcihhdbkaa
end Go.Proofs

/- forget: a key that has no version left. -/
namespace Go.Proofs.Ytfcocbcihhdbkaa
open Go.RowKit

theorem own_ne {g s n c : Nat} (h : s ≠ g) : ¬ (Value.slice (some ⟨g, 0, none⟩) n c).ownBlock = some s := fun e => h (by simpa [Value.ownBlock, eq_comm] using e)

theorem own_eq {g s n c : Nat} (h : (Value.slice (some ⟨g, 0, none⟩) n c).ownBlock = some s) : g = s := by simpa [Value.ownBlock] using h

theorem StoreAt.forgot {w w' : World} {R : Rep} {S : Nat → Prop} (key : ByteArray) {kv' : Value} {keys' : List ByteArray} {b : Nat} (h : StoreAt w R) (hk : Keeps S w w')
    (hS : ∀ k, k < w.heap.size → S k → k = R.sb ∨ R.kv.ownBlock = some k ∨ R.vm = some k)
    (ht : w'.heap[R.sb]? = some (.cells (topCells { R with kv := kv' }) 66 (0, 0)))
    (hkr : Row w' 9 1 kv' keys'.length (keys'.map Value.string)) (hvm : R.vm = some b)
    (hm : MapAt Value.string w' b (del (R.hist.map fun p => (p.1, p.2.sl)) key)) (hkv : kv'.ownBlock = R.kv.ownBlock) :
    StoreAt w' { R with kv := kv', keys := keys', hist := del R.hist key } ∧ (Rep.fp { R with kv := kv', keys := keys', hist := del R.hist key }).Sublist R.fp := by
  have hlt := fp_lt h
  have hnd := h.nodup
  have hsub : (Rep.fp { R with kv := kv', keys := keys', hist := del R.hist key }).Sublist R.fp := by
    show (R.sb :: (R.fpWorks ++ (kv'.ownBlock.toList ++ R.vm.toList ++ (del R.hist key).flatMap (fun p => p.2.sl.ownBlock.toList)))).Sublist (R.sb :: (R.fpWorks ++ (R.kv.ownBlock.toList ++ R.vm.toList ++ R.hist.flatMap (fun p => p.2.sl.ownBlock.toList))))
    rw [hkv]
    exact List.Sublist.cons_cons _ (List.Sublist.append_left (List.Sublist.append_left (flatMap_sublist _ (del_sublist _ _)) _) _)
  have hnd1 := hnd
  simp only [Rep.fp, Rep.fpPast, List.nodup_cons, List.nodup_append, List.mem_append, not_or] at hnd1
  obtain ⟨⟨n1, ⟨n2, n3⟩, n4⟩, n5, ⟨⟨n6, n7, n8⟩, n9, n10⟩, n11⟩ := hnd1
  have hns : ∀ k ∈ R.fpWorks, ¬ S k := by
    intro k hk1 hs
    rcases hS k (hlt k (by simp [Rep.fp, hk1])) hs with e | e | e
    · exact n1 (e ▸ hk1)
    · exact n11 k hk1 k (.inl (.inl (by simp [e]))) rfl
    · exact n11 k hk1 k (.inl (.inr (by simp [e]))) rfl
  have hnh : ∀ p ∈ R.hist, ∀ g, p.2.sl.ownBlock = some g → ¬ S g := by
    intro p hp g hg hs
    have hgd : g ∈ R.hist.flatMap (fun p => p.2.sl.ownBlock.toList) := List.mem_flatMap.2 ⟨p, hp, by simp [hg]⟩
    rcases hS g (hlt g (by simp only [Rep.fp, Rep.fpPast, List.mem_cons, List.mem_append]; exact .inr (.inr (.inr hgd)))) hs with e | e | e
    · exact n4 (e ▸ hgd)
    · exact n10 g (.inl (by simp [e])) g hgd rfl
    · exact n10 g (.inr (by simp [e])) g hgd rfl
  have hw := h.works.kept hk hns
  refine ⟨⟨ht, ⟨hw.worksMap, hw.worksEach, hw.pinsMap, hw.copyMap⟩, ⟨hkr, ?_, ?_⟩, hsub.nodup hnd⟩, hsub⟩
  · show OptMap _ _ R.vm _
    rw [hvm]
    show MapAt _ _ _ _
    rw [← del_map]
    exact hm
  · intro p hp
    have hp1 := (del_sublist _ _).subset hp
    exact (h.past.histEach p hp1).kept hk (hnh p hp1)

/-- What forget leaves. -/
def ForgetPost (R : Rep) (key : ByteArray) (w w' : World) : Prop :=
  ∃ kv', StoreAt w' { R with kv := kv', keys := R.keys.eraseIdx (below R.keys key), hist := del R.hist key } ∧ (Rep.fp { R with kv := kv', keys := R.keys.eraseIdx (below R.keys key), hist := del R.hist key }).Sublist R.fp ∧ Keeps (· ∈ R.fp) w w'

set_option maxRecDepth 100000 in
set_option maxHeartbeats 300000 in
theorem forget_any (R : Rep) (key : ByteArray) (w : World) (h : StoreAt w R) (hr : Rises R.keys) (hm : memB R.keys key = true) (b : Nat) (hvm : R.vm = some b) (hl : R.keys.length < 1000000000000) :
    Calls Try.prog 80 #[.pointer (some ⟨R.sb, 7, none⟩), .string key] w fun e w' => e = .returned (.tuple #[]) ∧ ForgetPost R key w w' := by
  have hM : MapAt Value.string w b (R.hist.map fun p => (p.1, p.2.sl)) := by have := h.past.histMap; rw [hvm] at this; exact this
  have c6 : w.cell? ⟨R.sb, 8, none⟩ = some (.map (some b)) := (h.cell 8).trans (by rw [← hvm]; rfl)
  have hrow := h.past.keysRow
  obtain ⟨hbl, hbk⟩ := (below_mem (x := key) hr).2 ((memB_iff _ _).1 hm)
  obtain ⟨a, capv, hkv, hnl, ha⟩ := hrow.form
  obtain ⟨g, rfl⟩ := ha (by omega)
  have c5 : w.cell? ⟨R.sb, 7, none⟩ = some (.slice (some ⟨g, 0, none⟩) R.keys.length capv) := (h.cell 7).trans (by rw [← hkv]; rfl)
  have hlt := h.lt
  have hf5 : w.frozen? ⟨R.sb, 7, none⟩ = false := h.frozen 7
  have hnd1 := h.nodup
  simp only [Rep.fp, Rep.fpPast, List.nodup_cons, List.nodup_append, List.mem_append, not_or, hkv, hvm] at hnd1
  have hsg : R.sb ≠ g := fun e => hnd1.1.2.1.1 (by simp [Value.ownBlock, e])
  have hsb : R.sb ≠ b := fun e => hnd1.1.2.1.2 (by simp [e])
  have hgb : g ≠ b := fun e => hnd1.2.2.1.1.2.2 g (by simp [Value.ownBlock]) b (by simp) e
  rw [hkv] at hrow
  have HROW : Hid (Row w 9 1 (.slice (some ⟨g, 0, none⟩) R.keys.length capv) R.keys.length (R.keys.map Value.string)) := hrow
  have HROW1 : Hid (∀ w1, Keeps (· = b) w w1 → Row w1 9 1 (.slice (some ⟨g, 0, none⟩) R.keys.length capv) R.keys.length (R.keys.map Value.string)) := fun w1 hk => hrow.kept hk (fun k hk' e => by
    have h2 : k = b := e
    exact hgb ((own_eq hk').trans h2))
  have HFZ : Hid (∀ w1 w2 w3, Keeps (· = b) w w1 → Keeps (fun _ => False) w1 w2 → Keeps (fun k => (Value.slice (some ⟨g, 0, none⟩) R.keys.length capv).ownBlock = some k) w2 w3 → w3.frozen? ⟨R.sb, 7, none⟩ = false) := fun w1 w2 w3 h1 h2 h3 => by
    rw [h3.frozen (by have := h1.size; have := h2.size; show R.sb < _; omega) (own_ne hsg), h2.frozen (by have := h1.size; show R.sb < _; omega) (fun h => h), h1.frozen hlt hsb]
    exact hf5
  have HST : Hid (StoreAt w R) := h
  have HR : Hid (Rises R.keys) := hr
  have HM : Hid (MapAt Value.string w b (R.hist.map fun p => (p.1, p.2.sl))) := hM
  have HKV : Hid (R.kv = .slice (some ⟨g, 0, none⟩) R.keys.length capv) := hkv
  have HVM : Hid (R.vm = some b) := hvm
  have HL : Hid (R.keys.length < 1000000000000) := hl
  have HSG : Hid (R.sb ≠ g) := hsg
  have HSB : Hid (R.sb ≠ b) := hsb
  have HGB : Hid (g ≠ b) := hgb
  have HMEM : Hid (memB R.keys key = true) := hm
  obtain ⟨i, hi⟩ : ∃ i, below R.keys key = i := ⟨_, rfl⟩
  rw [hi] at hbl
  have HI : Hid (below R.keys key = i) := hi
  have hib : i < 1000000000000 := by omega
  clear h hr hM hkv hvm hl hnd1 hsg hsb hgb hrow hm hi hbk
  go_enter Try.func80, Try.ntmps80
  go_wp2_with (first
    | (at_delete; go_must (refine wpList_delete_at _ rfl _ _ 62 9 rfl 99 strKeyOk Try.underlying62 Try.underlying9 b rfl key rfl _ HM.out ?_; intro w1 hm1 hk1 hz1; have c51 := hk1.cell (p := ⟨R.sb, 7, none⟩) c5 HSB.out))
    | (go_at_call 57; go_must (refine (search_keys _ R.keys key w1 (HROW1.out w1 hk1) HR.out (by have := HL.out; omega)).mono ?_; rw [HI.out, HMEM.out]; rintro e w2 ⟨rfl, hk2⟩; have c52 := hk2.cell (p := ⟨R.sb, 7, none⟩) c51 (fun h => h)))
    | (go_at_call 89; go_must (refine (delete_key _ R.keys i w2 ((HROW1.out w1 hk1).kept hk2 (fun _ _ h => h)) hbl).mono ?_; rintro e w3 ⟨g', cap', hg', rfl, hrow3, hk3⟩; obtain rfl : g = g' := own_eq hg'; have c53 := hk3.cell (p := ⟨R.sb, 7, none⟩) c52 (own_ne HSG.out); have hf53 : w3.frozen? ⟨R.sb, 7, none⟩ = false := HFZ.out w1 w2 w3 hk1 hk2 hk3)))
  go_end0
  have hkk : Keeps (fun k => k = R.sb ∨ k = g ∨ k = b) w (w3.setCell ⟨R.sb, 7, none⟩ (.slice (some ⟨g, 0, none⟩) (R.keys.length - 1) cap')) := (((hk1.mono (fun _ _ h => .inr (.inr h))).tr hk2 (fun _ h => h.elim)).tr hk3 (fun _ h => .inr (.inl (own_eq h).symm))).tr (Keeps.setCell _ _ _) (fun _ h => .inl h)
  have hlen : (R.keys.eraseIdx i).length = R.keys.length - 1 := List.length_eraseIdx_of_lt hbl
  have h3 : w3.heap[R.sb]? = some (.cells (topCells R) 66 (0, 0)) := by
    rw [hk3.block R.sb (by have := hk1.size; have := hk2.size; omega) (own_ne HSG.out), hk2.block R.sb (by have := hk1.size; omega) (fun h => h), hk1.block R.sb hlt HSB.out]
    exact HST.out.top
  have hres := HST.out.forgot key (kv' := .slice (some ⟨g, 0, none⟩) (R.keys.length - 1) cap') (keys' := R.keys.eraseIdx i) (b := b) hkk (fun k _ hs => ?_) ?_ ?_ HVM.out ?_ (by rw [HKV.out]; rfl)
  · rw [← HI.out] at hres
    refine ⟨rfl, _, hres.1, hres.2, hkk.mono (fun k _ hs => ?_)⟩
    rcases hs with rfl | rfl | rfl
    · simp [Rep.fp]
    · simp [Rep.fp, Rep.fpPast, HKV.out, Value.ownBlock]
    · simp [Rep.fp, Rep.fpPast, HVM.out]
  · rcases hs with h | h | h
    · exact .inl h
    · exact .inr (.inl (by rw [HKV.out, h]; rfl))
    · exact .inr (.inr (by rw [HVM.out, h]))
  · rw [heap_setCell_same h3]
    rfl
  · rw [hlen]
    exact hrow3.kept (Keeps.setCell _ _ _) (fun k hk e => HSG.out (by
      have h1 : k = R.sb := e
      exact h1.symm.trans (own_eq hk).symm))
  · exact ((hm1.kept hk2 (fun h => h)).kept hk3 (fun h => HGB.out (own_eq h))).kept (Keeps.setCell _ _ _) (fun e => HSB.out (Eq.symm e))

end Go.Proofs.Ytfcocbcihhdbkaa

/- Drop: the last version of a key is taken back. -/
namespace Go.Proofs.Ytfcocbcihhdbkaa
open Go.RowKit

/-- clear(all[last:]), and what is left of the versions then -/
theorem clear_last (g m cap : Nat) (xs : List Value) (w : World) (h : Row w 79 3 (.slice (some ⟨g, 0, none⟩) (m + 1) cap) (m + 1) xs) :
    ∃ wc, (Builtin.clear_ #[99] 0 #[.slice (some ⟨g, m * 3, none⟩) 1 (cap - m)]).run Try.prog w = .ok (.tuple #[]) wc ∧ Keeps (· = g) w wc ∧ Row wc 79 3 (.slice (some ⟨g, 0, none⟩) m m) m (xs.take (m * 3)) := by
  rcases h.2 with ⟨e, _⟩ | ⟨g', cap', cur, e, hg, hnc, hcm, hcs, htk⟩
  · cases e
  · cases e
    have hsz : (m + 1) * 3 ≤ cur.size := Nat.le_trans (Nat.mul_le_mul_right 3 hnc) hcs
    have hst := run_storeCells_cells (P := Try.prog) g (m * 3) [.int .i64 0, .string ⟨#[]⟩, .bool false] 0 w (fun j hj => by
        rw [cell_of_heap hg]
        simp at hj ⊢
        omega) (fun j _ => frozen_of_heap hg _) (by simp [Value.oneCell'])
    refine ⟨w.setCells g (m * 3) [.int .i64 0, .string ⟨#[]⟩, .bool false], ?_, Keeps.setCells _ _ _ _, ⟨?_, .inr ⟨g, m, _, rfl, heap_setCells _ _ _ _ _ hg, Nat.le_refl _, by omega, by rw [putL_size]; omega, ?_⟩⟩⟩
    · have hz : (Builtin.zeroCells (Value.agg #[.int .i64 0, .string ⟨#[]⟩, .bool false]).cells 1).toList = [.int .i64 0, .string ⟨#[]⟩, .bool false] := by kernel_rfl
      simp only [Nat.add_zero] at hst
      simp [Builtin.clear_, run_underlying Try.underlying99, hz, hst]
    · rw [List.length_take, h.1]
      omega
    · rw [putL_toList _ _ _ (by simp; omega), List.append_assoc, List.take_append_of_le_length (by simp; omega), List.take_take, Nat.min_self, ← htk, List.take_take, Nat.min_eq_left (by omega)]

theorem take_last {vs : List Ver} {v : Ver} {m : Nat} (hm : vs.length = m) : ((vs ++ [v]).flatMap Ver.cells).take (m * 3) = vs.flatMap Ver.cells := by
  rw [List.flatMap_append, List.take_left' (by rw [cells_length, hm])]

/-- How the store lies when the last version is cut off. -/
theorem StoreAt.dropped {w wc : World} {R : Rep} {key : ByteArray} {x : HsR} {vs : List Ver} {v : Ver} {g b m cap : Nat} {ob : Obj} (h : StoreAt w R) (hx : look R.hist key = some x) (hxv : x.vers = vs ++ [v]) (hm : vs.length = m) (hxs : x.sl = .slice (some ⟨g, 0, none⟩) (vs.length + 1) cap) (hvm : R.vm = some b)
    (hkc : Keeps (· = g) w wc) (hRc : Row wc 79 3 (.slice (some ⟨g, 0, none⟩) m m) m ((x.vers.flatMap Ver.cells).take (m * 3))) (hM1 : MapAt Value.string (Go.ChangeMaps.setBlock wc.drew b ob) b (put (R.hist.map fun p => (p.1, p.2.sl)) key (.slice (some ⟨g, 0, none⟩) m m))) (hN : g ≠ R.sb ∧ g ≠ b ∧ R.sb ≠ b ∧ g < w.heap.size) :
    StoreAt (Go.ChangeMaps.setBlock wc.drew b ob) { R with vm := some b, hist := put R.hist key ⟨.slice (some ⟨g, 0, none⟩) m m, vs⟩ } ∧ Keeps (· ∈ R.fp) w (Go.ChangeMaps.setBlock wc.drew b ob) ∧ ∀ k ∈ Rep.fp { R with vm := some b, hist := put R.hist key ⟨.slice (some ⟨g, 0, none⟩) m m, vs⟩ }, k ∈ R.fp := by
  obtain ⟨hgs, hgb, hsb, hgl⟩ := hN
  have hsl : slOf R.hist key = x.sl := by unfold slOf; rw [hx]; rfl
  have hkk : Keeps (fun k => k = g ∨ k = b) w (Go.ChangeMaps.setBlock wc.drew b ob) := ((hkc.mono (fun _ _ h => .inl h)).dr).tr (Keeps.setBlock wc.drew b ob) (fun _ h => .inr h)
  have hkvn : ∀ k, R.kv.ownBlock = some k → k ≠ b ∧ k ≠ g := fun k hk => by
    have hn := ((fp_perm R key).nodup_iff).1 h.nodup
    rw [List.nodup_append] at hn
    have hd1 := hn.2.2
    rw [hsl, hxs] at hd1
    exact ⟨fun e => hd1 k (by simp [hk]) k (List.mem_append_right _ (by simp [Rep.restOf, hvm, e])) rfl, fun e => hd1 k (by simp [hk]) k (List.mem_append_left _ (by simp [e, Value.ownBlock])) rfl⟩
  have hgf : (slOf R.hist key).ownBlock = some g := by rw [hsl, hxs]; rfl
  refine ⟨h.added key hkk (fun k _ hs => ?_) ?_ ?_ hM1 ?_ (fun g hg => .inl hg) (fun k hk => .inl ?_) (.inl hvm) ?_, hkk.mono (fun k _ hs => ?_), fun k hk => ?_⟩
  · rcases hs with rfl | rfl
    · exact .inr (.inr (.inr hgf))
    · exact .inr (.inr (.inl hvm))
  · have e : topCells { R with kv := R.kv, vm := some b } = topCells R := by simp [topCells, hvm]
    rw [e]
    exact (hkk.block R.sb h.lt (by rintro (h | h); exact hgs h.symm; exact hsb h)).trans h.top
  · exact h.past.keysRow.kept hkk (fun k hk => by rintro (h | h); exact (hkvn k hk).2 h; exact (hkvn k hk).1 h)
  · rw [hxv, take_last hm] at hRc
    rw [hm]
    exact (hRc.kept (Keeps.drew (fun _ => False) wc) (fun _ _ h => h)).kept (Keeps.setBlock wc.drew b ob) (fun k hk e => hgb ((own_eq hk).trans e))
  · rw [hgf, own_eq hk]
  · cases hkb : R.kv.ownBlock with
    | none => simp [Value.ownBlock, hgb]
    | some k =>
      have h1 := hkvn k hkb
      simp [Value.ownBlock, hgb, h1.1, h1.2]
  · rw [(fp_perm R key).mem_iff]
    rcases hs with rfl | rfl
    · exact List.mem_append_right _ (List.mem_append_left _ (by simp [hgf]))
    · exact List.mem_append_right _ (List.mem_append_right _ (by simp [Rep.restOf, hvm]))
  · rcases addFp (R := R) (key := key) (kv' := R.kv) (sl' := .slice (some ⟨g, 0, none⟩) m m) (keys' := R.keys) (b := b) (vs' := vs) (n := k + 1) (fun _ h => .inl h) (fun k hk => .inl (by rw [hgf, own_eq hk])) (.inl hvm) k hk with h1 | h1
    · exact h1
    · omega

theorem rises_nodup {ks : List ByteArray} (hr : Rises ks) : ks.Nodup := by
  refine hr.imp (fun h e => ?_)
  rw [e, ltK_irrefl] at h
  cases h

theorem memB_erase {ks : List ByteArray} {x : ByteArray} (hr : Rises ks) (hm : memB ks x = true) (k : ByteArray) : memB (ks.eraseIdx (below ks x)) k = (decide (x ≠ k) && memB ks k) := by
  obtain ⟨hb, hbk⟩ := (below_mem (x := x) hr).2 ((memB_iff _ _).1 hm)
  have hnd := rises_nodup hr
  rw [Bool.eq_iff_iff, memB_iff, List.mem_eraseIdx_iff_getElem]
  simp only [Bool.and_eq_true, decide_eq_true_eq, memB_iff]
  constructor
  · rintro ⟨i, hi, hne, rfl⟩
    refine ⟨fun e => hne ?_, List.getElem_mem hi⟩
    exact (List.getElem_inj hnd).1 (e.symm.trans hbk.symm)
  · rintro ⟨hne, hk⟩
    obtain ⟨i, hi, rfl⟩ := List.getElem_of_mem hk
    refine ⟨i, hi, fun e => hne ?_, rfl⟩
    subst e
    exact hbk.symm

/-- What Drop leaves: the key has vs. -/
def DropPost (R : Rep) (key : ByteArray) (vs : List Ver) (w w' : World) : Prop :=
  ∃ R', StoreAt w' R' ∧ R' = { R with kv := R'.kv, keys := R'.keys, vm := R'.vm, hist := R'.hist } ∧ Tied R' ∧ (∀ k, versOf R'.hist k = if key = k then vs else versOf R.hist k) ∧
    Keeps (· ∈ R.fp) w w' ∧ (∀ k ∈ R'.fp, k ∈ R.fp) ∧ R'.keys.length ≤ R.keys.length

theorem drop_more {R : Rep} {key : ByteArray} {vs : List Ver} {sl : Value} {b : Nat} {w w1 : World} (h : StoreAt w R) (t : Tied R) (hvs : vs ≠ []) (hm : memB R.keys key = true) (hS : StoreAt w1 { R with vm := some b, hist := put R.hist key ⟨sl, vs⟩ }) (hk : Keeps (· ∈ R.fp) w w1)
    (hf : ∀ k ∈ Rep.fp { R with vm := some b, hist := put R.hist key ⟨sl, vs⟩ }, k ∈ R.fp) : DropPost R key vs w w1 := by
  refine ⟨_, hS, rfl, ⟨t.rises, fun k => ?_, fun p hp => ?_⟩, fun k => versOf_put _ _ _ _, hk, hf, Nat.le_refl _⟩
  · show memB R.keys k = (look (put R.hist key ⟨sl, vs⟩) k).isSome
    rw [look_put]
    split
    · rename_i e
      rw [← e, hm]
      rfl
    · exact t.keys k
  · rcases mem_put (hist_nodup h.past) hp with rfl | ⟨h1, _⟩
    · exact hvs
    · exact t.filled p h1

theorem drop_last {R : Rep} {key : ByteArray} {vs : List Ver} {sl : Value} {b : Nat} {w w1 w2 : World} (h : StoreAt w R) (t : Tied R) (hvs : vs = []) (hm : memB R.keys key = true) (hk : Keeps (· ∈ R.fp) w w1)
    (hf : ∀ k ∈ Rep.fp { R with vm := some b, hist := put R.hist key ⟨sl, vs⟩ }, k ∈ R.fp) (hg : ForgetPost { R with vm := some b, hist := put R.hist key ⟨sl, vs⟩ } key w1 w2) : DropPost R key vs w w2 := by
  obtain ⟨kv', hS, hsub, hk2⟩ := hg
  have hdel : del (put R.hist key ⟨sl, vs⟩) key = del R.hist key := del_put _ _ _
  have hnd := hist_nodup h.past
  refine ⟨_, hS, rfl, ⟨?_, fun k => ?_, fun p hp => ?_⟩, fun k => ?_, hk.tr hk2 (fun k hk => hf k hk), fun k hk => hf k (hsub.subset hk), ?_⟩
  · exact t.rises.sublist (List.eraseIdx_sublist _ _)
  · show memB (R.keys.eraseIdx (below R.keys key)) k = (look (del (put R.hist key ⟨sl, vs⟩) key) k).isSome
    rw [hdel, look_del _ hnd, memB_erase t.rises hm, t.keys]
    by_cases e : key = k
    · simp [e]
    · simp [e]
  · have hp' : p ∈ del (put R.hist key ⟨sl, vs⟩) key := hp
    rw [hdel] at hp'
    exact t.filled p ((del_sublist _ _).subset hp')
  · show versOf (del (put R.hist key ⟨sl, vs⟩) key) k = _
    rw [hdel]
    unfold versOf
    rw [look_del _ hnd]
    split
    · rw [hvs]; rfl
    · rfl
  · exact (List.eraseIdx_sublist _ _).length_le

set_option maxRecDepth 100000 in
set_option maxHeartbeats 500000 in
theorem drop_any (R : Rep) (key : ByteArray) (vs : List Ver) (v : Ver) (w : World) (h : StoreAt w R) (t : Tied R) (hv : versOf R.hist key = vs ++ [v]) (hl : R.keys.length < 1000000000000) (hvl : vs.length < 1000000000000) :
    Calls Try.prog 71 #[.pointer (some ⟨R.sb, 7, none⟩), .string key] w fun e w' => e = .returned (.tuple #[]) ∧ DropPost R key vs w w' := by
  obtain ⟨x, hx⟩ : ∃ x, look R.hist key = some x := by
    cases hx : look R.hist key with
    | some x => exact ⟨x, rfl⟩
    | none =>
      unfold versOf at hv
      rw [hx] at hv
      simp at hv
  have hxv : x.vers = vs ++ [v] := by unfold versOf at hv; rw [hx] at hv; exact hv
  obtain ⟨b, hvm⟩ : ∃ b, R.vm = some b := by
    cases hv : R.vm with
    | some b => exact ⟨b, rfl⟩
    | none =>
      have := h.past.histMap
      rw [hv] at this
      have e : R.hist = [] := List.map_eq_nil_iff.1 this
      rw [e] at hx
      cases hx
  have hM : MapAt Value.string w b (R.hist.map fun p => (p.1, p.2.sl)) := by have := h.past.histMap; rw [hvm] at this; exact this
  have c6 : w.cell? ⟨R.sb, 8, none⟩ = some (.map (some b)) := (h.cell 8).trans (by rw [← hvm]; rfl)
  have hlt := h.lt
  have hR := h.past.histEach _ (look_mem hx)
  have hxl : x.vers.length = vs.length + 1 := by rw [hxv]; simp
  rw [hxl] at hR
  have hR' : Row w 79 3 x.sl (vs.length + 1) (x.vers.flatMap Ver.cells) := hR
  obtain ⟨g, cap, hsl⟩ := hR'.succ
  have hlk : look (R.hist.map fun p => (p.1, p.2.sl)) key = some (.slice (some ⟨g, 0, none⟩) (vs.length + 1) cap) := by rw [look_map, hx, ← hsl]; rfl
  obtain ⟨m, hm⟩ : ∃ m, vs.length = m := ⟨_, rfl⟩
  rw [hm] at hlk hvl
  have HLK : Hid (look (R.hist.map fun p => (p.1, p.2.sl)) key = some (.slice (some ⟨g, 0, none⟩) (m + 1) cap)) := hlk
  have HST : Hid (StoreAt w R) := h
  have HT : Hid (Tied R) := t
  have HX : Hid (look R.hist key = some x) := hx
  have HVM : Hid (R.vm = some b) := hvm
  have HM : Hid (MapAt Value.string w b (R.hist.map fun p => (p.1, p.2.sl))) := hM
  have HR : Hid (Row w 79 3 x.sl (vs.length + 1) (x.vers.flatMap Ver.cells)) := hR
  have HL : Hid (R.keys.length < 1000000000000) := hl
  have HVS : Hid (x.vers = vs ++ [v]) := hxv
  have HMM : Hid (vs.length = m) := hm
  have HSL : Hid (x.sl = .slice (some ⟨g, 0, none⟩) (vs.length + 1) cap) := hsl
  have hcap : m + 1 ≤ cap := by
    rcases hR.2 with ⟨e, h0⟩ | ⟨g', cap', cur, e, hg, hnc, hcm, hcs, htk⟩
    · omega
    · rw [hsl] at e
      cases e
      omega
  have hRm : Row w 79 3 (.slice (some ⟨g, 0, none⟩) (m + 1) cap) (m + 1) (x.vers.flatMap Ver.cells) := by rw [← hm, ← hsl]; exact hR
  obtain ⟨wc, hclr, hkc, hRc⟩ := clear_last g m cap _ w hRm
  obtain ⟨hgs, hgb, hsb, hgl⟩ : g ≠ R.sb ∧ g ≠ b ∧ R.sb ≠ b ∧ g < w.heap.size := by
    have hn := ((fp_perm R key).nodup_iff).1 h.nodup
    rw [List.nodup_append, List.nodup_append] at hn
    have hsl' : slOf R.hist key = x.sl := by unfold slOf; rw [hx]; rfl
    have hd2 := hn.2.1.2.2
    have hr := hn.2.1.2.1
    rw [hsl', hsl] at hd2
    refine ⟨fun e => hd2 g (by simp [Value.ownBlock]) g (by simp [Rep.restOf, e]) rfl, fun e => hd2 g (by simp [Value.ownBlock]) g (by simp [Rep.restOf, hvm, e]) rfl, fun e => ?_, hRm.lt rfl⟩
    simp only [Rep.restOf, List.nodup_cons, List.mem_append, not_or] at hr
    exact hr.1.2.1 (by simp [hvm, e])
  have c6c : wc.cell? ⟨R.sb, 8, none⟩ = some (.map (some b)) := hkc.cell (p := ⟨R.sb, 8, none⟩) c6 (Ne.symm hgs)
  have hMc : MapAt Value.string wc.drew b (R.hist.map fun p => (p.1, p.2.sl)) := (hM.kept hkc (Ne.symm hgb)).kept (Keeps.drew (fun _ => False) wc) (fun h => h)
  obtain ⟨ob, hrun, hM1⟩ := hMc.update (P := Try.prog) (t := 62) strKeyOk Try.underlying62 Try.underlying9 key (.slice (some ⟨g, 0, none⟩) m m)
  have HM1 : Hid (MapAt Value.string (Go.ChangeMaps.setBlock wc.drew b ob) b (put (R.hist.map fun p => (p.1, p.2.sl)) key (.slice (some ⟨g, 0, none⟩) m m))) := hM1
  have HRC : Hid (Row wc 79 3 (.slice (some ⟨g, 0, none⟩) m m) m ((x.vers.flatMap Ver.cells).take (m * 3))) := hRc
  have HKC : Hid (Keeps (· = g) w wc) := hkc
  have HN : Hid (g ≠ R.sb ∧ g ≠ b ∧ R.sb ≠ b ∧ g < w.heap.size) := ⟨hgs, hgb, hsb, hgl⟩
  have hRS : R.sb < wc.heap.size := Nat.lt_of_lt_of_le hlt hkc.size
  clear hRm hkc hRc hMc hM1 hgs hgb hsb hgl
  clear h t hx hvm hM hR hR' hl hxv hm hsl hlk hv hxl
  go_enter Try.func71, Try.ntmps71
  go_wp2_with (at_lookup; go_must (refine wpList_lookup_at _ rfl _ _ 62 rfl 9 99 strKeyOk Try.underlying62 Try.underlying9 _ (Try.zeroVersions _) b rfl key rfl _ HM.out ?_; rw [HLK.out]; simp only [Option.getD_some]))
  go_region
  obtain ⟨hS1, hk1, hf1⟩ := HST.out.dropped HX.out HVS.out HMM.out HSL.out HVM.out HKC.out HRC.out HM1.out HN.out
  have hmem : memB R.keys key = true := by rw [HT.out.keys, HX.out]; rfl
  have HS1 : Hid (StoreAt (Go.ChangeMaps.setBlock wc.drew b ob) { R with vm := some b, hist := put R.hist key ⟨.slice (some ⟨g, 0, none⟩) m m, vs⟩ }) := hS1
  have HK1 : Hid (Keeps (· ∈ R.fp) w (Go.ChangeMaps.setBlock wc.drew b ob)) := hk1
  have HF1 : Hid (∀ k ∈ Rep.fp { R with vm := some b, hist := put R.hist key ⟨.slice (some ⟨g, 0, none⟩) m m, vs⟩ }, k ∈ R.fp) := hf1
  have HMEM : Hid (memB R.keys key = true) := hmem
  clear hS1 hk1 hf1 hmem hclr hrun c6c
  by_cases hm0 : m = 0
  · have hFG := forget_any { R with vm := some b, hist := put R.hist key ⟨.slice (some ⟨g, 0, none⟩) m m, vs⟩ } key _ HS1.out HT.out.rises HMEM.out b rfl HL.out
    go_wp2_with (go_at_call 80; go_must (refine hFG.mono ?_; rintro e w4 ⟨rfl, hf⟩))
    go_end0
    exact ⟨rfl, drop_last HST.out HT.out (List.eq_nil_of_length_eq_zero (HMM.out.trans hm0)) HMEM.out HK1.out HF1.out hf⟩
  · go_wp2
    go_end0
    exact ⟨rfl, drop_more HST.out HT.out (fun e => hm0 (HMM.out.symm.trans (by rw [e]; rfl))) HMEM.out HS1.out HK1.out HF1.out⟩

end Go.Proofs.Ytfcocbcihhdbkaa

/- The step that takes one version back. -/
namespace Go.Proofs.Ytfcocbcihhdbkaa
open Go.RowKit

theorem DropPost.keeps {R : Rep} {key : ByteArray} {vs : List Ver} {w w' : World} (h : DropPost R key vs w w') : Keeps (· ∈ R.fp) w w' := by
  obtain ⟨_, _, _, _, _, h, _⟩ := h
  exact h

theorem DropPost.from {R : Rep} {key : ByteArray} {vs : List Ver} {w0 w w' : World} (h : DropPost R key vs w w') (hk : Keeps (fun _ => False) w0 w) : DropPost R key vs w0 w' := by
  obtain ⟨R', h1, h2, h3, h4, h5, h6⟩ := h
  exact ⟨R', h1, h2, h3, h4, (hk.mono (fun _ _ h => h.elim)).tr h5 (fun _ h => h), h6⟩

theorem DropPost.id {R : Rep} {key : ByteArray} {w : World} (h : StoreAt w R) (t : Tied R) (hv : versOf R.hist key = []) : DropPost R key (versOf R.hist key).dropLast w w := by
  refine ⟨R, h, rfl, t, fun k => ?_, Keeps.refl _ _, fun _ h => h, Nat.le_refl _⟩
  split
  · rename_i e
    rw [← e, hv]
    rfl
  · rfl

set_option maxRecDepth 100000 in
set_option maxHeartbeats 500000 in
theorem drop_none (R : Rep) (key : ByteArray) (w : World) (h : StoreAt w R) (hx : look R.hist key = none) :
    Calls Try.prog 71 #[.pointer (some ⟨R.sb, 7, none⟩), .string key] w fun e w' => e = .returned (.tuple #[]) ∧ w' = w := by
  have c6 : w.cell? ⟨R.sb, 8, none⟩ = some (.map R.vm) := h.cell 8
  have hM := h.past.histMap
  have hlt := h.lt
  have HSL : Hid ((look (R.hist.map fun p => (p.1, p.2.sl)) key).getD (.slice none 0 0) = .slice none 0 0) := by
    unfold Hid
    rw [look_map, hx]
    rfl
  obtain ⟨vm, hvm⟩ : ∃ vm, R.vm = vm := ⟨_, rfl⟩
  rw [hvm] at c6 hM
  clear h hx
  go_enter Try.func71, Try.ntmps71
  go_wp2_with (at_lookup; go_must (refine wpList_lookup_opt _ rfl _ _ 62 rfl 9 99 strKeyOk Try.underlying62 Try.underlying9 _ (Try.zeroVersions _) vm rfl key rfl _ hM ?_; rw [HSL.out]))
  refine bodyPost_ret (results_none rfl _ _ _) rfl ?_
  exact ⟨rfl, rfl⟩

/-- Drop of any key. -/
theorem drop_all (R : Rep) (key : ByteArray) (w : World) (h : StoreAt w R) (t : Tied R) (hl : R.keys.length < 1000000000000) (hvl : (versOf R.hist key).length < 1000000000000) :
    Calls Try.prog 71 #[.pointer (some ⟨R.sb, 7, none⟩), .string key] w fun e w' => e = .returned (.tuple #[]) ∧ DropPost R key (versOf R.hist key).dropLast w w' := by
  cases hx : look R.hist key with
  | none =>
    refine (drop_none R key w h hx).mono ?_
    rintro e w' ⟨rfl, rfl⟩
    exact ⟨rfl, .id h t (by unfold versOf; rw [hx]; rfl)⟩
  | some x =>
    have hv : versOf R.hist key = x.vers := by unfold versOf; rw [hx]; rfl
    have hne := t.filled _ (look_mem hx)
    rw [hv]
    exact drop_any R key x.vers.dropLast (x.vers.getLast hne) w h t (by rw [hv]; exact (List.dropLast_concat_getLast hne).symm) hl (by rw [hv] at hvl; simp; omega)

set_option maxRecDepth 100000 in
set_option maxHeartbeats 500000 in
theorem undo_one (R : Rep) (key : ByteArray) (s kb : Nat) (w : World) (h : StoreAt w R) (t : Tied R) (hl : R.keys.length < 1000000000000) (hvl : (versOf R.hist key).length < 1000000000000)
    (hs : w.cell? ⟨s, 0, none⟩ = some (.pointer (some ⟨R.sb, 0, none⟩))) (hk : w.cell? ⟨kb, 0, none⟩ = some (.string key)) (hsf : s ∉ R.fp) (hkf : kb ∉ R.fp) :
    Calls Try.prog 70 #[.pointer (some ⟨s, 0, none⟩), .pointer (some ⟨kb, 0, none⟩)] w fun e w' => e = .returned (.tuple #[]) ∧ DropPost R key (versOf R.hist key).dropLast w w' := by
  obtain ⟨vs, hvs⟩ : ∃ vs, (versOf R.hist key).dropLast = vs := ⟨_, rfl⟩
  rw [hvs]
  have HD : Hid (∀ W, Keeps (fun _ => False) w W → Calls Try.prog 71 #[.pointer (some ⟨R.sb, 7, none⟩), .string key] W fun e w' => e = .returned (.tuple #[]) ∧ DropPost R key vs W w') := fun W hk => hvs ▸ drop_all R key W (h.kept hk (fun _ _ h => h)) t hl hvl
  have HSF : Hid (s ∉ R.fp) := hsf
  have HKF : Hid (kb ∉ R.fp) := hkf
  have hlt := h.lt
  have hsl : s < w.heap.size := World.block_lt_of_cell? _ _ hs
  have hkl : kb < w.heap.size := World.block_lt_of_cell? _ _ hk
  clear h t hl hvl hsf hkf hvs
  go_enter Try.func70, Try.ntmps70
  go_region_held3 (fun W => W.cell? ⟨s, 0, none⟩ = some (.pointer (some ⟨R.sb, 0, none⟩)) ∧ W.cell? ⟨kb, 0, none⟩ = some (.string key)) (go_keep) (first | (go_at_call 71; refine (HD.out _ (Keeps.drew (fun _ => False) w)).mono ?_; rintro e wb ⟨rfl, hd⟩; have hs' := hd.keeps.cell (p := ⟨s, 0, none⟩) (v := .pointer (some ⟨R.sb, 0, none⟩)) hs HSF.out; have hk' := hd.keeps.cell (p := ⟨kb, 0, none⟩) (v := .string key) hk HKF.out))
  go_end0
  exact ⟨rfl, hd.from (Keeps.drew (fun _ => False) w)⟩

end Go.Proofs.Ytfcocbcihhdbkaa

/- slices.Backward over the steps of a change. -/
namespace Go.Proofs.Ytfcocbcihhdbkaa
open Go.RowKit Go.Shelf

attribute [local go_sem] Oper.semAt_some

/-- what the rounds leave to the iterator: the box and the row of steps -/
def KpB (B g : Nat) (A C : World) : Prop := C.heap[B]? = A.heap[B]? ∧ C.heap[g]? = A.heap[g]?

/-- the indices that have come when k are left -/
def comeB (n k : Nat) : List (Fin n) := ((List.finRange n).drop k).reverse

theorem comeB_step {n k : Nat} (h : k < n) : comeB n k = comeB n (k + 1) ++ [⟨k, h⟩] := by
  unfold comeB
  rw [List.drop_eq_getElem_cons (i := k) (by simpa using h)]
  simp

theorem comeB_length (n k : Nat) : (comeB n k).length = n - k := by simp [comeB]

theorem comeB_all (n : Nat) : comeB n n = [] := by simp [comeB]

set_option maxRecDepth 100000 in
set_option maxHeartbeats 600000 in
theorem backward1_any (F : Fence) (n : Nat) (h1 : F.fn 65) (hro : F.round = none) (hn : 1 ≤ n) (l B g cap : Nat) (fs : List Value) (J Jx : List (Fin fs.length) → World → Prop)
    (hY : ∀ pre x W, J pre W → pre.length < fs.length → YieldAt F (n - 1) Try.prog l #[.int .i64 (x.val : Nat), fs[x.val]] W fun e W' => (e = .returned (.bool true) ∧ J (pre ++ [x]) W' ∧ KpB B g W W') ∨ (e = .returned (.bool false) ∧ Jx (pre ++ [x]) W'))
    (W : World) (hB : W.cell? ⟨B, 0, none⟩ = some (.slice (some ⟨g, 0, none⟩) fs.length cap)) (hfs : ∀ i (h : i < fs.length), W.cell? ⟨g, i, none⟩ = some fs[i]) (hl : fs.length < 1000000000000) (h0 : J [] W) :
    CallsIn F n Try.prog 65 #[.func (.yield l) #[] #[], .pointer (some ⟨B, 0, none⟩)] W fun e W' => (∃ v, e = .returned v) ∧ (J (comeB fs.length 0) W' ∨ ∃ pre, Jx pre W') := by
  refine callsIn_of_wp Try.func65 rfl h1 ?_ hro
  simp only [Try.ntmps65, List.size_toArray, List.length_cons, List.length_nil, Nat.reduceAdd, Nat.reduceSub, Array.replicate_succ, Array.replicate_zero, List.push_toArray, List.append_toArray, List.nil_append, List.cons_append]
  gi_wp2
  gi_loopw [3] (fun i wr => ∃ k : Nat, k ≤ fs.length ∧ i = .int .i64 ((k : Int) - 1) ∧ J (comeB fs.length k) wr ∧ KpB B g W wr) (fun i _ => (intOf i + 1).toNat)
  case atStart => exact ⟨fs.length, Nat.le_refl _, rfl, by rw [comeB_all]; exact h0, rfl, rfl⟩
  case round =>
    obtain ⟨k, hk, rfl, hJs, hKp⟩ := hrel
    have hB' : wr.cell? ⟨B, 0, none⟩ = some (.slice (some ⟨g, 0, none⟩) fs.length cap) := by
      rw [← hB]; simp only [World.cell?, hKp.1]
    rcases Nat.eq_zero_or_pos k with rfl | hk0
    · gi_wp2
      go_end0
      exact ⟨⟨_, rfl⟩, .inl hJs⟩
    · obtain ⟨j, rfl⟩ : ∃ j, k = j + 1 := ⟨k - 1, by omega⟩
      have hj : j < fs.length := by omega
      have hcj : wr.cell? ⟨g, j, none⟩ = some fs[j] := by
        rw [← hfs j hj]; simp only [World.cell?, hKp.2]
      have ej : ((j + 1 : Nat) : Int) - 1 = (j : Int) := by omega
      rw [ej]
      obtain ⟨fn, tmps, assign, body, hy, hR⟩ := hY _ ⟨j, hj⟩ wr hJs (by rw [comeB_length]; omega)
      simp only at hy
      gi_wp2
      refine hR.mono ?_
      have hst := comeB_step hj
      rintro e W3 (⟨rfl, hJ3, hk3⟩ | ⟨rfl, hJx3⟩)
      · rw [← hst] at hJ3
        have hKp3 : KpB B g W W3 := ⟨hk3.1.trans hKp.1, hk3.2.trans hKp.2⟩
        clear hY hst hk3 hy hR hB' hcj hfs hB hKp hJs
        gi_wp2
        refine ⟨⟨j, by omega, rfl, hJ3, hKp3⟩, ?_⟩
        simp only [intOf]
        omega
      · clear hY hst hy hR hB' hcj hfs hB hKp hJs
        gi_wp2
        refine bodyPost_ret (results_none rfl _ _ _) rfl ?_
        exact ⟨⟨_, rfl⟩, .inr ⟨_, hJx3⟩⟩

theorem backward_stops (F : Fence) (n : Nat) (h1 : F.fn 65) (hro : F.round = none) (hn : 1 ≤ n) (B g cap : Nat) (fs : List Value) (w : World) (hB : B < w.heap.size) (hg : g < w.heap.size) (hc : w.cell? ⟨B, 0, none⟩ = some (.slice (some ⟨g, 0, none⟩) fs.length cap))
    (hfs : ∀ i (h : i < fs.length), w.cell? ⟨g, i, none⟩ = some fs[i]) (hl : fs.length < 1000000000000) :
    SeqStopsK F n Try.prog 65 #[.pointer (some ⟨B, 0, none⟩)] (fun x : Fin fs.length => #[.int .i64 (x.val : Nat), fs[x.val]]) (KpB B g) (fun xs => xs = comeB fs.length 0) (fun _ => True) fs.length w := fun l J Jx W hW _ _ hY h0 => by
  have hc' := (hW.cell (p := ⟨B, 0, none⟩) hB).trans hc
  refine (backward1_any F n h1 hro hn l B g cap fs J Jx hY W hc' (fun i hi => (hW.cell (p := ⟨g, i, none⟩) hg).trans (hfs i hi)) hl h0).mono fun e W' ⟨he, hj⟩ => ⟨he, ?_⟩
  rcases hj with hj | ⟨pre, hj⟩
  · exact .inl ⟨_, rfl, hj⟩
  · exact .inr ⟨pre, trivial, hj⟩

end Go.Proofs.Ytfcocbcihhdbkaa

/- settle, where keys have been added: their versions are taken back. -/
namespace Go.Proofs.Ytfcocbcihhdbkaa
open Go.RowKit Go.Shelf

/-- the versions without the last n -/
def cutN (n : Nat) (vs : List Ver) : List Ver := vs.take (vs.length - n)

theorem cutN_zero (vs : List Ver) : cutN 0 vs = vs := by simp [cutN]

theorem cutN_last (n : Nat) (vs : List Ver) : (cutN n vs).dropLast = cutN (n + 1) vs := by
  unfold cutN
  rw [List.dropLast_eq_take, List.take_take, List.length_take]
  congr 1
  omega

theorem cutN_one (vs : List Ver) (v : Ver) : cutN 1 (vs ++ [v]) = vs := by
  unfold cutN
  rw [List.length_append]
  exact List.take_left' rfl

theorem cutN_le (n : Nat) (vs : List Ver) : (cutN n vs).length ≤ vs.length := by simp [cutN]

/-- how often a key is among those taken back -/
def cntK (ks : List ByteArray) (k : ByteArray) : Nat := (ks.filter (fun x => decide (x = k))).length

theorem cntK_snoc (ks : List ByteArray) (x k : ByteArray) : cntK (ks ++ [x]) k = cntK ks k + if x = k then 1 else 0 := by
  unfold cntK
  rw [List.filter_append, List.length_append]
  by_cases e : x = k
  · simp [e]
  · simp [e]

theorem cntK_nodup : ∀ {ks : List ByteArray}, ks.Nodup → ∀ k, cntK ks k = if memB ks k then 1 else 0
  | [], _, k => by simp [cntK, memB]
  | a :: r, h, k => by
    rw [List.nodup_cons] at h
    have ih := cntK_nodup h.2 k
    unfold cntK memB at ih ⊢
    by_cases e : a = k
    · subst e
      have hm : r.any (fun x => decide (x = a)) = false := by
        rw [Bool.eq_false_iff]
        intro hh
        exact h.1 ((memB_iff r a).1 hh)
      rw [hm] at ih
      simp at ih ⊢
      exact ih
    · have e' : decide (a = k) = false := by simp [e]
      rw [List.filter_cons_of_neg (by simp [e]), ih, List.any_cons, e', Bool.false_or]

theorem cntK_reverse (ks : List ByteArray) (k : ByteArray) : cntK ks.reverse k = cntK ks k := by
  unfold cntK
  rw [List.filter_reverse, List.length_reverse]

/-- How it stands when the last versions of these keys have been taken back. -/
def BackAt (Rj : Rep) (w : World) (pre : List ByteArray) (W : World) : Prop :=
  ∃ Rk, StoreAt W Rk ∧ Rk = { Rj with kv := Rk.kv, keys := Rk.keys, vm := Rk.vm, hist := Rk.hist } ∧ Tied Rk ∧ (∀ k, versOf Rk.hist k = cutN (cntK pre k) (versOf Rj.hist k)) ∧ (∀ x ∈ Rk.fp, x ∈ Rj.fp) ∧ Keeps (· ∈ Rj.fp) w W ∧ Rk.keys.length ≤ Rj.keys.length

theorem BackAt.kept {Rj : Rep} {pre : List ByteArray} {w W W' : World} {S : Nat → Prop} (h : BackAt Rj w pre W) (hj : StoreAt w Rj) (hk : Keeps S W W') (hS : ∀ i, S i → w.heap.size ≤ i) : BackAt Rj w pre W' := by
  obtain ⟨Rk, h1, h2, h3, h4, h5, h6, h7⟩ := h
  have hlt := fp_lt hj
  exact ⟨Rk, h1.kept hk (fun i hi hs => by have := hS i hs; have := hlt i (h5 i hi); omega), h2, h3, h4, h5, h6.trans hk (fun i hi hs => by have := hS i hs; omega), h7⟩

theorem backAt_step {Rj : Rep} {pre : List ByteArray} {w W : World} {s kb : Nat} {key : ByteArray} (h : BackAt Rj w pre W)
    (hbox : w.heap[kb]? = some (.cells #[.string key] 9 (0, 0))) (hsbox : w.heap[s]? = some (.cells #[.pointer (some ⟨Rj.sb, 0, none⟩)] 23 (0, 0))) (hsj : s ∉ Rj.fp) (hkj : kb ∉ Rj.fp) (hkl : Rj.keys.length < 1000000000000) (hvl : ∀ x, (versOf Rj.hist x).length < 1000000000000) :
    Calls Try.prog 70 #[.pointer (some ⟨s, 0, none⟩), .pointer (some ⟨kb, 0, none⟩)] W fun e W' => e = .returned (.tuple #[]) ∧ BackAt Rj w (pre ++ [key]) W' ∧ Keeps (· ∈ Rj.fp) W W' := by
  obtain ⟨Rk, h1, h2, h3, h4, h5, h6, h7⟩ := h
  have hskb : Rk.sb = Rj.sb := by rw [h2]
  have hc1 : W.cell? ⟨s, 0, none⟩ = some (.pointer (some ⟨Rk.sb, 0, none⟩)) := by
    rw [hskb]
    exact h6.cell (p := ⟨s, 0, none⟩) (cell_of_heap hsbox 0) hsj
  have hc2 : W.cell? ⟨kb, 0, none⟩ = some (.string key) := h6.cell (p := ⟨kb, 0, none⟩) (cell_of_heap hbox 0) hkj
  refine (undo_one Rk key s kb W h1 h3 (by omega) (by rw [h4]; exact Nat.lt_of_le_of_lt (cutN_le _ _) (hvl _)) hc1 hc2 (fun hf => hsj (h5 _ hf)) (fun hf => hkj (h5 _ hf))).mono ?_
  rintro e W' ⟨rfl, R', g1, g2, g3, g4, g5, g6, g7⟩
  refine ⟨rfl, ⟨R', g1, by rw [g2, h2], g3, fun k => ?_, fun x hx => h5 x (g6 x hx), h6.tr g5 (fun x hx => h5 x hx), by omega⟩, g5.mono (fun x _ hx => h5 x hx)⟩
  rw [g4, cntK_snoc]
  by_cases e : key = k
  · subst e
    rw [if_pos rfl, if_pos rfl, h4, cutN_last]
  · rw [if_neg e, if_neg e, h4, Nat.add_zero]

/-- All of them taken back: what was. -/
theorem BackAt.all {R Rj : Rep} {ks : List ByteArray} {ver : ByteArray → Ver} {w W : World} (h : BackAt Rj w ks.reverse W) (hG : Grew R ks ver Rj) (hn : ks.Nodup) : ∃ R0, StoreAt W R0 ∧ Grew R [] ver R0 ∧ (∀ x ∈ R0.fp, x ∈ Rj.fp) ∧ Keeps (· ∈ Rj.fp) w W ∧ R0.keys.length ≤ Rj.keys.length := by
  obtain ⟨Rk, h1, h2, h3, h4, h5, h6, h7⟩ := h
  have hs := hG.same
  refine ⟨Rk, h1, ⟨by rw [h2, hs], fun k => ?_, h3⟩, h5, h6, h7⟩
  rw [h4, cntK_reverse, cntK_nodup hn, hG.vers]
  cases hm : memB ks k with
  | true => simpa [memB] using cutN_one _ _
  | false => simpa [memB] using cutN_zero _

end Go.Proofs.Ytfcocbcihhdbkaa

/- settle, walked where keys have been added. -/
namespace Go.Proofs.Ytfcocbcihhdbkaa
open Go.RowKit Go.Shelf

attribute [local go_sem] Oper.semAt_some

theorem Keeps.belowB {B : Nat} {w w' : World} (h : Below B w w') : Keeps (fun k => B ≤ k) w w' :=
  ⟨h.os, h.tape, h.output, h.size, fun k _ hn => h.block k (by omega)⟩

/-- the keys of steps that have come -/
def keysAt (ks : List ByteArray) {n : Nat} (pre : List (Fin n)) : List ByteArray := pre.map fun i => ks.getD i.val ByteArray.empty

theorem keysAt_all {ks : List ByteArray} {n : Nat} (h : n = ks.length) : keysAt ks (comeB n 0) = ks.reverse := by
  subst h
  unfold keysAt comeB
  rw [List.drop_zero, List.map_reverse]
  congr 1
  apply List.ext_getElem
  · simp
  · intro i h1 h2
    simp

theorem ownFrom_back {Rj : Rep} {ks : List ByteArray} {w : World} {n B : Nat} (hj : StoreAt w Rj) (hB : w.heap.size ≤ B) : OwnFrom B (fun (pre : List (Fin n)) W => BackAt Rj w (keysAt ks pre) W ∧ w.heap.size < W.heap.size) :=
  fun _ _ _ _ hs hg hr => ⟨hs.1.kept hj (Keeps.grown hg) (fun i e => by have := (hr i e.symm).1; omega), Nat.lt_of_lt_of_le hs.2 hg.size⟩

set_option maxRecDepth 100000 in
set_option maxHeartbeats 600000 in
theorem settle_steps (Rj : Rep) (ks : List ByteArray) (cb eb g cap : Nat) (kbs : List Nat) (n : Int) (hn : 1 ≤ n ∧ n ≤ 9) (w : World) (hS : StoreAt w Rj) (ht : Tied Rj) (hlen : kbs.length = ks.length) (hl30 : ks.length ≤ 30)
    (hc : w.cell? ⟨cb, 0, none⟩ = some (.slice (some ⟨g, 0, none⟩) kbs.length cap)) (hfs : ∀ i (h : i < kbs.length), w.cell? ⟨g, i, none⟩ = some (clo kbs[i])) (hgf : g ∉ Rj.fp) (hgl : g < w.heap.size)
    (hboxes : ∀ i (h : i < kbs.length), w.heap[kbs[i]]? = some (.cells #[.pointer (some ⟨Rj.sb, 0, none⟩)] 23 (0, 0)) ∧ w.heap[kbs[i] + 1]? = some (.cells #[.string (ks.getD i ByteArray.empty)] 9 (0, 0)))
    (hap : ∀ k, (k ∈ kbs ∨ ∃ b ∈ kbs, k = b + 1) → k ∉ Rj.fp) (he : w.cell? ⟨eb, 0, none⟩ = some (.int .i64 n)) (hkl : Rj.keys.length < 1000000000000) (hvl : ∀ x, (versOf Rj.hist x).length < 1000000000000) :
    Calls Try.prog 22 #[.pointer (some ⟨cb, 0, none⟩), .nilIface, .pointer (some ⟨eb, 0, none⟩)] w fun e w' => e = .returned (.tuple #[]) ∧ BackAt Rj w ks.reverse w' := by
  obtain ⟨h1, h2⟩ := hn
  have hnb : (n == 0) = false := by simp; omega
  have hmf : ∀ (fn : Fn) (first cap : Array Value) (w : World), (Instr.makeFunc fn first cap).run Try.prog w = .ok (.func fn first cap) w := fun _ _ _ _ => rfl
  have HS : Hid (StoreAt w Rj) := hS
  have HB0 : Hid (BackAt Rj w [] w) := ⟨Rj, hS, rfl, ht, fun k => by simp [cntK, cutN_zero], fun _ h => h, Keeps.refl _ _, Nat.le_refl _⟩
  have HST : Hid (∀ k (hk : k < kbs.length) pre W, BackAt Rj w pre W → Calls Try.prog 70 #[.pointer (some ⟨kbs[k], 0, none⟩), .pointer (some ⟨kbs[k] + 1, 0, none⟩)] W fun e W' => e = .returned (.tuple #[]) ∧ BackAt Rj w (pre ++ [ks.getD k ByteArray.empty]) W' ∧ Keeps (· ∈ Rj.fp) W W') := fun k hk pre W hW =>
    backAt_step hW (hboxes k hk).2 (hboxes k hk).1 (hap _ (.inl (List.getElem_mem hk))) (hap _ (.inr ⟨_, List.getElem_mem hk, rfl⟩)) hkl hvl
  have HFL : Hid (∀ k ∈ Rj.fp, k < w.heap.size) := fp_lt hS
  have HGF : Hid (g ∉ Rj.fp) := hgf
  have hm30 : kbs.length ≤ 30 := by omega
  have HLEN : Hid (kbs.length = ks.length) := hlen
  clear hS ht hboxes hap hgf hkl hvl hlen hl30
  refine (callsIn_wide (n := 8)).1 ?_
  refine callsIn_of_wp_marks Try.func22 rfl trivial ?_ rfl
  simp only [Try.ntmps22, List.size_toArray, List.length_cons, List.length_nil, Nat.reduceAdd, Nat.reduceSub, Array.replicate_succ, Array.replicate_zero, List.push_toArray, List.append_toArray, List.nil_append, List.cons_append]
  gi_wp2_with (refine ⟨trivial, ?_⟩; gi_at_call 43; go_must (refine (callsIn_wide.2 (backward_any _ _ _ _)).mono ?_; rintro e w1 ⟨rfl, rfl⟩))
  have hlf : (kbs.map clo).length = kbs.length := by simp
  have hseq := backward_stops Fence.wide 7 trivial rfl (by omega) w.heap.size g cap (kbs.map clo) (w.alloc (.cells #[.slice (some ⟨g, 0, none⟩) kbs.length cap] 54)) (by simp) (by simp; omega) (by simp) (fun i hi => by
      have hi' : i < kbs.length := by simpa using hi
      rw [World.cell?_alloc_past _ _ _ hgl, hfs i hi']
      simp) (by rw [hlf]; omega)
  refine wpIn_rangeFunc_ownG (α := Fin (kbs.map clo).length) rfl (by omega) (gf := 65) (lb := #[.pointer (some ⟨w.heap.size, 0, none⟩)]) rfl trivial (enters_of Try.func65 (by kernel_rfl) rfl)
    hseq (fun h k => ⟨k.1.trans h.1, k.2.trans h.2⟩) ?kb (Below.refl _ _) (fun x => rfl)
    (fun pre W => BackAt Rj w (keysAt ks pre) W ∧ w.heap.size < W.heap.size) (fun _ _ _ => False) ?own ?ownx ?start
    (fun x => { tmps := #[.pointer (some ⟨cb, 0, none⟩), .nilIface, .pointer (some ⟨eb, 0, none⟩), undef, undef, undef, undef, (kbs.map clo)[x.val], .nilIface, .bool false, undef, undef, .pointer (some ⟨eb, 0, none⟩), .pointer (some ⟨eb, 0, none⟩), .int .i64 n, .bool false, .pointer (some ⟨cb, 0, none⟩), .pointer (some ⟨cb, 0, none⟩), .pointer (some ⟨cb, 0, none⟩), .slice (some ⟨g, 0, none⟩) kbs.length cap, .func (.func 65) #[] #[.pointer (some ⟨w.heap.size, 0, none⟩)], .int .i64 (x.val : Nat), (kbs.map clo)[x.val], undef, undef], defers := [] }) ?assign ?body ?done (fun _ _ _ _ _ _ h => h.elim)
  case kb =>
    intro W l o o' hl hlo hcells hwalk
    simp at hl
    have hl1 : l ≠ w.heap.size := by omega
    have hl2 : l ≠ g := by omega
    exact ⟨World.putObj_heap_other (Ne.symm hl1), World.putObj_heap_other (Ne.symm hl2)⟩
  case own => exact ownFrom_back HS.out (by simp)
  case ownx => exact fun _ _ _ _ _ h _ _ => h
  case start => exact ⟨HB0.out.kept HS.out (Keeps.alloc (fun _ => False) _ _) (fun _ h => h.elim), by simp⟩
  case assign =>
    intro l x W K hK
    have ez : Array.foldl (fun (t : Array Value) (x : Tmp × Value) => match x with | (p, v) => t.setIfInBounds p v) #[Value.pointer (some ⟨cb, 0, none⟩), .nilIface, .pointer (some ⟨eb, 0, none⟩), undef, undef, undef, undef, undef, .nilIface, .bool false, undef, undef, .pointer (some ⟨eb, 0, none⟩), .pointer (some ⟨eb, 0, none⟩), .int .i64 n, .bool false, .pointer (some ⟨cb, 0, none⟩), .pointer (some ⟨cb, 0, none⟩), .pointer (some ⟨cb, 0, none⟩), .slice (some ⟨g, 0, none⟩) kbs.length cap, .func (.func 65) #[] #[.pointer (some ⟨w.heap.size, 0, none⟩)], undef, undef, undef, undef] (#[21, 22].zip #[Value.int .i64 (x.val : Nat), (kbs.map clo)[x.val]]) = #[Value.pointer (some ⟨cb, 0, none⟩), .nilIface, .pointer (some ⟨eb, 0, none⟩), undef, undef, undef, undef, undef, .nilIface, .bool false, undef, undef, .pointer (some ⟨eb, 0, none⟩), .pointer (some ⟨eb, 0, none⟩), .int .i64 n, .bool false, .pointer (some ⟨cb, 0, none⟩), .pointer (some ⟨cb, 0, none⟩), .pointer (some ⟨cb, 0, none⟩), .slice (some ⟨g, 0, none⟩) kbs.length cap, .func (.func 65) #[] #[.pointer (some ⟨w.heap.size, 0, none⟩)], .int .i64 (x.val : Nat), (kbs.map clo)[x.val], undef, undef] := by kernel_rfl
    simp only [ez]
    gi_wp2
    simp only [List.getElem_map] at hK
    exact hK
  case body =>
    intro l pre x W hI hlt
    have hx' : x.val < kbs.length := by have := x.isLt; simpa using this
    have ex : (kbs.map clo)[x.val] = .func (.func 70) #[] #[.pointer (some ⟨kbs[x.val], 0, none⟩), .pointer (some ⟨kbs[x.val] + 1, 0, none⟩)] := by simp [clo]
    have HC := HST.out x.val hx' (keysAt ks pre) W hI.1
    rw [ex]
    have HI : Hid (w.heap.size < W.heap.size) := hI.2
    generalize kbs[x.val] = kb at HC
    clear hI hseq ex
    gi_wp2_with (refine ⟨trivial, ?_⟩; gi_at_call 70; go_must (refine (CallsIn.inRound l (callsIn_wide.2 HC)).mono ?_; rintro e W1 ⟨rfl, hB1, hk1⟩))
    have hsz := HI.out
    refine ⟨⟨hk1.size, fun k o hk ho _ => ?_⟩, ⟨?_, ?_⟩, ?_, Nat.lt_of_lt_of_le hsz hk1.size⟩
    · simp at hk
      rw [hk1.block k (Array.getElem?_eq_some_iff.1 ho).1 (fun hf => by have := HFL.out k hf; omega)]
      exact ho
    · exact hk1.block _ hsz (fun hf => by have := HFL.out _ hf; omega)
    · exact hk1.block _ (by omega) HGF.out
    · have ek : keysAt ks (pre ++ [x]) = keysAt ks pre ++ [ks.getD x.val ByteArray.empty] := by simp [keysAt]
      rw [ek]
      exact hB1
  case done =>
    rintro D ys W hD rfl hB hK
    gi_wp2
    refine ⟨by simp, .inl ⟨_, _, rfl, run_takeDeferred hK, ?_⟩⟩
    refine ⟨_, results_none rfl _ _ _, rfl, ?_⟩
    have hk0 := hB.1
    rw [keysAt_all (by rw [hlf]; exact HLEN.out)] at hk0
    exact hk0.kept HS.out (Keeps.belowB (belowK_b (w := w) (Nat.le_refl _) W D _ _ (by simp at hD; omega) hK rfl rfl)) (fun _ h => h)

end Go.Proofs.Ytfcocbcihhdbkaa
