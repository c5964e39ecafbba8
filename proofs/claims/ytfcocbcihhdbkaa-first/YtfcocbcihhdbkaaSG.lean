/- Add of the first key. -/
import Derived.Test.YtfcocbcihhdbkaaSF
namespace Go.Proofs.Ytfcocbcihhdbkaa
open Go.RowKit

/-- The map of versions is made. -/
theorem StoreAt.vmSet {w : World} {R : Rep} (h : StoreAt w R) (hvm : R.vm = none) (hh : R.hist = []) (o : Obj) : StoreAt (((w.setCell ⟨R.sb, 8, none⟩ (.map (some (w.heap.size + 1)))).alloc o).alloc (.map #[] 0)) { R with vm := some (w.heap.size + 1) } := by
  have hlt := fp_lt h
  have hnd := h.nodup
  have hk : Keeps (· = R.sb) w (((w.setCell ⟨R.sb, 8, none⟩ (.map (some (w.heap.size + 1)))).alloc o).alloc (.map #[] 0)) := ((Keeps.setCell w ⟨R.sb, 8, none⟩ _).al _).al _
  have hne : ∀ k ∈ R.fpWorks ++ R.fpPast, ¬ k = R.sb := by
    intro k hk1 e
    subst e
    simp only [Rep.fp, List.nodup_cons] at hnd
    exact hnd.1 hk1
  have hw := h.works.kept hk (fun k hk1 => hne k (List.mem_append_left _ hk1))
  refine ⟨?_, ⟨hw.worksMap, hw.worksEach, hw.pinsMap, hw.copyMap⟩, ⟨h.past.keysRow.kept hk (fun g hg => hne g (List.mem_append_right _ (by simp [Rep.fpPast, hg]))), ?_, ?_⟩, ?_⟩
  · show (World.alloc _ _).heap[R.sb]? = _
    rw [Below.heap_alloc _ _ _ (by simp; have := h.lt; omega), Below.heap_alloc _ _ _ (by simp; have := h.lt; omega), heap_setCell_same h.top]
    simp [topCells]
  · show MapAt _ _ _ _
    rw [hh]
    have := MapAt.made Value.string ((w.setCell ⟨R.sb, 8, none⟩ (.map (some (w.heap.size + 1)))).alloc o)
    simpa using this
  · intro p hp
    have hp' : p ∈ R.hist := hp
    rw [hh] at hp'
    cases hp'
  · have e : Rep.fp { R with vm := some (w.heap.size + 1) } = R.sb :: (R.fpWorks ++ (R.kv.ownBlock.toList ++ [w.heap.size + 1] ++ R.hist.flatMap (fun p => p.2.sl.ownBlock.toList))) := rfl
    have e0 : R.fp = R.sb :: (R.fpWorks ++ (R.kv.ownBlock.toList ++ R.hist.flatMap (fun p => p.2.sl.ownBlock.toList))) := by simp [Rep.fp, Rep.fpPast, hvm]
    have hp : (Rep.fp { R with vm := some (w.heap.size + 1) }).Perm ((w.heap.size + 1) :: R.fp) := by
      rw [e, e0]
      refine List.Perm.trans ?_ (List.Perm.swap _ _ _)
      refine List.Perm.cons _ ?_
      rw [List.append_assoc, List.singleton_append]
      refine List.Perm.trans (List.Perm.append_left _ List.perm_middle) ?_
      exact List.perm_middle
    rw [hp.nodup_iff]
    exact List.nodup_cons.2 ⟨fun h' => by have := hlt _ h'; omega, hnd⟩

set_option maxRecDepth 100000 in
set_option maxHeartbeats 1000000 in
theorem add_first (R : Rep) (key : ByteArray) (v : Ver) (w : World) (h : StoreAt w R) (hvm : R.vm = none) (hin : memB R.keys key = false) (hrs : Rises R.keys) (hl : R.keys.length < 1000000000000) :
    Calls Try.prog 69 #[.pointer (some ⟨R.sb, 7, none⟩), .string key, .agg #[.int .i64 v.state, .string v.value, .bool v.gone]] w fun e w' => e = .returned (.tuple #[]) ∧ AddPost R key v w w' := by
  have hh0 : R.hist = [] := by have := h.past.histMap; rw [hvm] at this; exact List.map_eq_nil_iff.1 this
  have c5 : w.cell? ⟨R.sb, 7, none⟩ = some R.kv := h.cell 7
  have c6 : w.cell? ⟨R.sb, 8, none⟩ = some (.map none) := (h.cell 8).trans (by rw [← hvm]; rfl)
  have c6f : w.frozen? ⟨R.sb, 8, none⟩ = false := h.frozen 8
  have hlt := h.lt
  have hlt1 : R.sb < w.heap.size + 1 := by omega
  have hlt2 : R.sb < w.heap.size + 1 + 1 := by omega
  have hmm := @run_makeMap Try.prog
  have S0 : StoreAt (((w.setCell ⟨R.sb, 8, none⟩ (.map (some (w.heap.size + 1)))).alloc (.cells #[.int .i64 v.state, .string v.value, .bool v.gone] 79)).alloc (.map #[] 0)) { R with vm := some (w.heap.size + 1) } := h.vmSet hvm hh0 (.cells #[.int .i64 v.state, .string v.value, .bool v.gone] 79)
  have HK0 : Hid (Keeps (· = R.sb) w (((w.setCell ⟨R.sb, 8, none⟩ (.map (some (w.heap.size + 1)))).alloc (.cells #[.int .i64 v.state, .string v.value, .bool v.gone] 79)).alloc (.map #[] 0))) := ((Keeps.setCell w ⟨R.sb, 8, none⟩ _).al _).al _
  have hM : MapAt Value.string (((w.setCell ⟨R.sb, 8, none⟩ (.map (some (w.heap.size + 1)))).alloc (.cells #[.int .i64 v.state, .string v.value, .bool v.gone] 79)).alloc (.map #[] 0)) (w.heap.size + 1) (R.hist.map fun p => (p.1, p.2.sl)) := S0.past.histMap
  have d5z : (((w.setCell ⟨R.sb, 8, none⟩ (.map (some (w.heap.size + 1)))).alloc (.cells #[.int .i64 v.state, .string v.value, .bool v.gone] 79)).alloc (.map #[] 0)).cell? ⟨R.sb, 7, none⟩ = some R.kv := S0.cell 7
  have hem := eqVm_none
  have hnot : ∀ (x : Bool) (w : World), (Op.unary .not (.bool x)).run Try.prog w = .ok (.bool (!x)) w := fun _ _ => rfl
  have HLK : Hid (look (R.hist.map fun p => (p.1, p.2.sl)) key = none) := by unfold Hid; rw [hh0]; rfl
  have hbsn := search_keys R.kv R.keys key (((w.setCell ⟨R.sb, 8, none⟩ (.map (some (w.heap.size + 1)))).alloc (.cells #[.int .i64 v.state, .string v.value, .bool v.gone] 79)).alloc (.map #[] 0)) S0.past.keysRow hrs (by omega)
  rw [hin] at hbsn
  have HST : Hid (StoreAt w R) := h
  have HX : Hid (look R.hist key = none) := by unfold Hid; rw [hh0]; rfl
  have HIN : Hid (memB R.keys key = false) := hin
  have HVM : Hid (R.vm = none) := hvm
  have HM : Hid (MapAt Value.string (((w.setCell ⟨R.sb, 8, none⟩ (.map (some (w.heap.size + 1)))).alloc (.cells #[.int .i64 v.state, .string v.value, .bool v.gone] 79)).alloc (.map #[] 0)) (w.heap.size + 1) (R.hist.map fun p => (p.1, p.2.sl))) := hM
  have HS0 : Hid (StoreAt (((w.setCell ⟨R.sb, 8, none⟩ (.map (some (w.heap.size + 1)))).alloc (.cells #[.int .i64 v.state, .string v.value, .bool v.gone] 79)).alloc (.map #[] 0)) { R with vm := some (w.heap.size + 1) }) := S0
  have HL : Hid (R.keys.length < 1000000000000) := hl
  have HINS : Hid (∀ w1, Keeps (fun _ => False) (((w.setCell ⟨R.sb, 8, none⟩ (.map (some (w.heap.size + 1)))).alloc (.cells #[.int .i64 v.state, .string v.value, .bool v.gone] 79)).alloc (.map #[] 0)) w1 → Calls Try.prog 79 #[R.kv, .int .i64 (below R.keys key), .slice (some ⟨w1.heap.size, 0, none⟩) 1 1] (w1.alloc (.cells #[.string key] 9)) fun e w' => ∃ g cap, e = .returned (.slice (some ⟨g, 0, none⟩) (R.keys.length + 1) cap) ∧ Row w' 9 1 (.slice (some ⟨g, 0, none⟩) (R.keys.length + 1) cap) (R.keys.length + 1) ((insAt R.keys (below R.keys key) key).map Value.string) ∧ Keeps (fun k => R.kv.ownBlock = some k) (w1.alloc (.cells #[.string key] 9)) w' ∧ (R.kv.ownBlock = some g ∨ (w1.alloc (.cells #[.string key] 9)).heap.size ≤ g)) := fun w1 hk1 =>
    insert_key R.kv R.keys (below R.keys key) key w1.heap.size _ ((S0.past.keysRow.kept hk1 (fun _ _ h => h)).kept (Keeps.alloc (fun _ => False) _ _) (fun _ _ h => h)) (below_le _ _) hl (heap_new w1 _) (fun e => by have := h.past.keysRow.lt e; have := hk1.size; simp at this; omega)
  have HKB : Hid (∀ g, R.kv.ownBlock = some g → g ≠ R.sb ∧ g < w.heap.size) := fun g hg => by
    have hn := ((fp_perm R key).nodup_iff).1 h.nodup
    rw [List.nodup_append] at hn
    have hd := hn.2.2
    exact ⟨fun e => hd g (by simp [hg]) g (List.mem_append_right _ (by simp [Rep.restOf, e])) rfl, h.past.keysRow.lt hg⟩
  obtain ⟨i0, hi, hz0', hz1, hz2⟩ := info_parts Try.infoVersion
  clear h hin hvm hM hl hrs hh0 S0
  go_enter Try.func69, Try.ntmps69
  go_wp2_with (first
    | (at_lookup; go_must (refine wpList_lookup_ok_at _ rfl _ _ 62 rfl 9 99 strKeyOk Try.underlying62 Try.underlying9 _ (Try.zeroVersions _) (w.heap.size + 1) rfl key rfl _ HM.out ?_; rw [HLK.out]; simp only [Option.getD_none, Option.isSome_none]))
    | (go_at_call 57; go_must (refine hbsn.mono ?_; rintro e w1 ⟨rfl, hk1⟩; have hKw1 : Keeps (· = R.sb) w w1 := HK0.out.tr hk1 (fun _ h => h.elim); have d5 : w1.cell? ⟨R.sb, 7, none⟩ = some R.kv := hk1.cell (p := ⟨R.sb, 7, none⟩) d5z (fun h => h); have dlt : R.sb < w1.heap.size := by (have := hKw1.size; omega)))
    | (go_at_call 79; go_must (refine (HINS.out w1 hk1).mono ?_; rintro e w2 ⟨g1, cap1, rfl, hr2, hk2, hat2⟩; have hKw2 : Keeps (fun k => R.kv.ownBlock = some k) (((w.setCell ⟨R.sb, 8, none⟩ (.map (some (w.heap.size + 1)))).alloc (.cells #[.int .i64 v.state, .string v.value, .bool v.gone] 79)).alloc (.map #[] 0)) w2 := ((hk1.mono (fun _ _ h => h.elim)).al _).tr hk2 (fun _ h => h); have f5 : w2.cell? ⟨R.sb, 7, none⟩ = some R.kv := hKw2.cell (p := ⟨R.sb, 7, none⟩) d5z (fun e => (HKB.out _ e).1 rfl); have f5f : w2.frozen? ⟨R.sb, 7, none⟩ = false := by (rw [hKw2.frozen (p := ⟨R.sb, 7, none⟩) (by simp; omega) (fun e => (HKB.out _ e).1 rfl)]; exact HS0.out.frozen 7))))
  have hz0 : (((w.setCell ⟨R.sb, 8, none⟩ (.map (some (w.heap.size + 1)))).alloc (.cells #[.int .i64 v.state, .string v.value, .bool v.gone] 79)).alloc (.map #[] 0)).heap.size = w.heap.size + 2 := by simp
  have hg1 : g1 ≠ R.sb ∧ g1 ≠ w.heap.size + 1 ∧ (R.kv.ownBlock = some g1 ∨ w.heap.size + 2 < g1) := by
    rcases hat2 with e | e
    · have := (HKB.out g1 e).2
      exact ⟨(HKB.out g1 e).1, by omega, .inl e⟩
    · have h1 := hk1.size
      rw [hz0] at h1
      simp at e
      exact ⟨by omega, by omega, .inr (by omega)⟩
  have hT2 : w2.heap[R.sb]? = some (.cells (topCells { R with vm := some (w.heap.size + 1) }) 66 (0, 0)) := (hKw2.block R.sb (by rw [hz0]; omega) (fun e => (HKB.out _ e).1 rfl)).trans HS0.out.top
  have hB2 : w2.heap[w.heap.size]? = some (.cells #[.int .i64 v.state, .string v.value, .bool v.gone] 79 (0, 0)) := by
    rw [hKw2.block w.heap.size (by rw [hz0]; omega) (fun e => by have := (HKB.out _ e).2; omega), Below.heap_alloc _ _ _ (by simp)]
    have := heap_new (w.setCell ⟨R.sb, 8, none⟩ (.map (some (w.heap.size + 1)))) (.cells #[.int .i64 v.state, .string v.value, .bool v.gone] 79)
    simpa using this
  have K3 : Keeps (fun k => R.kv.ownBlock = some k ∨ k = R.sb) (((w.setCell ⟨R.sb, 8, none⟩ (.map (some (w.heap.size + 1)))).alloc (.cells #[.int .i64 v.state, .string v.value, .bool v.gone] 79)).alloc (.map #[] 0)) (w2.setCell ⟨R.sb, 7, none⟩ (.slice (some ⟨g1, 0, none⟩) (R.keys.length + 1) cap1)) := (hKw2.mono (fun _ _ h => .inl h)).st (.inr (.inr rfl)) _
  have c1 : ∀ g, (Value.slice (some ⟨g1, 0, none⟩) (R.keys.length + 1) cap1).ownBlock = some g → R.kv.ownBlock = some g ∨ w.heap.size ≤ g := fun g hg => by
    have hg' : g1 = g := by simpa [Value.ownBlock] using hg
    subst hg'
    rcases hg1.2.2 with e | e
    · exact .inl e
    · right; omega
  have S3 := HS0.out.keysSet (kv' := .slice (some ⟨g1, 0, none⟩) (R.keys.length + 1) cap1) (keys' := insAt R.keys (below R.keys key) key) K3 (fun k _ hs => hs.elim (fun e => .inr e) (fun e => .inl e)) ((heap_setCell_same (i := 7) hT2 _).trans (by simp [topCells])) (by
    have hr3 := hr2.kept (Keeps.setCell w2 ⟨R.sb, 7, none⟩ (.slice (some ⟨g1, 0, none⟩) (R.keys.length + 1) cap1)) (fun g hg => by
      have hg' : g1 = g := by simpa [Value.ownBlock] using hg
      exact fun e => hg1.1 (hg'.trans e))
    rw [insAt_length _ _ _ (below_le _ _)]
    exact hr3) (fun g hg => by
      have hg' : g1 = g := by simpa [Value.ownBlock] using hg
      subst hg'
      rcases hg1.2.2 with e | e
      · exact .inl e
      · right; rw [hz0]; omega)
  have B3 : (w2.setCell ⟨R.sb, 7, none⟩ (.slice (some ⟨g1, 0, none⟩) (R.keys.length + 1) cap1)).heap[w.heap.size]? = some (.cells #[.int .i64 v.state, .string v.value, .bool v.gone] 79 (0, 0)) := (Below.heap_setCell _ _ _ _ (by simp only; omega)).trans hB2
  have z3 : w.heap.size + 3 ≤ (w2.setCell ⟨R.sb, 7, none⟩ (.slice (some ⟨g1, 0, none⟩) (R.keys.length + 1) cap1)).heap.size := by
    have h1 := hk1.size
    have h2 := hk2.size
    rw [hz0] at h1
    simp at h2
    simp
    omega
  have G3 : ∀ g, (Value.slice (some ⟨g1, 0, none⟩) (R.keys.length + 1) cap1).ownBlock = some g → g < (w2.setCell ⟨R.sb, 7, none⟩ (.slice (some ⟨g1, 0, none⟩) (R.keys.length + 1) cap1)).heap.size := fun g hg => S3.past.keysRow.lt hg
  clear hT2 hB2 hk1 hKw1 hKw2 hk2 hr2 d5 dlt f5 f5f hbsn d5z
  generalize w2.setCell ⟨R.sb, 7, none⟩ (.slice (some ⟨g1, 0, none⟩) (R.keys.length + 1) cap1) = W3 at K3 S3 B3 z3 G3
  have p0 : W3.cell? ⟨w.heap.size, 0, none⟩ = some (.int .i64 v.state) := cell_of_heap B3 0
  have p1 : W3.cell? ⟨w.heap.size, 1, none⟩ = some (.string v.value) := cell_of_heap B3 1
  have p2 : W3.cell? ⟨w.heap.size, 2, none⟩ = some (.bool v.gone) := cell_of_heap B3 2
  have p6 : W3.cell? ⟨R.sb, 8, none⟩ = some (.map (some (w.heap.size + 1))) := S3.cell 8
  have plt : R.sb < W3.heap.size := S3.lt
  have HS3 : Hid (StoreAt W3 { R with kv := (.slice (some ⟨g1, 0, none⟩) (R.keys.length + 1) cap1), keys := insAt R.keys (below R.keys key) key, vm := some (w.heap.size + 1) }) := S3
  have HK3 : Hid (Keeps (fun k => R.kv.ownBlock = some k ∨ k = R.sb) (((w.setCell ⟨R.sb, 8, none⟩ (.map (some (w.heap.size + 1)))).alloc (.cells #[.int .i64 v.state, .string v.value, .bool v.gone] 79)).alloc (.map #[] 0)) W3) := K3
  have HM3 : Hid (MapAt Value.string W3 (w.heap.size + 1) (R.hist.map fun p => (p.1, p.2.sl))) := S3.past.histMap
  have HSB : Hid (R.sb ≠ w.heap.size + 1) := by unfold Hid; omega
  clear S3 K3 B3 c5 c6 c6f
  go_region_held3 (fun W => W.cell? ⟨R.sb, 8, none⟩ = some (.map (some (w.heap.size + 1))) ∧ W.cell? ⟨w.heap.size, 0, none⟩ = some (.int .i64 v.state) ∧ W.cell? ⟨w.heap.size, 1, none⟩ = some (.string v.value) ∧ W.cell? ⟨w.heap.size, 2, none⟩ = some (.bool v.gone)) (go_keep)
    ((refine step_append_row _ (by rfl) _ _ 99 (by rfl) 79 i0 _ 3 32 Try.underlying99 hi hz0' hz1 hz2 (by rfl) (.slice none 0 0) 0 [] (by rfl) (Row.nil _ _ _) ⟨W3.heap.size, 0, none⟩ 1 1 v.cells (by rfl) (by rfl) (add_news0 W3 v) (by simp [Ver.cells, Value.oneCell']) (by unfold maxLen; omega) (by omega) ?_; intro v' w5 hown' hgrow _ hat; obtain ⟨g', cap', rfl, hrow'⟩ := hown'.one; have hk5 : Keeps (fun _ => False) W3 w5 := (((Keeps.refl (fun _ => False) W3).al _).dr).tr (Keeps.grown hgrow) (fun _ h => by simp [Value.ownBlock] at h); obtain ⟨r0, r1, r2, r3⟩ := keep4c hk5 (fun h => h) (fun h => h) p6 p0 p1 p2; obtain ⟨ob, hrun, hM1⟩ := (HM3.out.kept hk5 (fun h => h)).update (P := Try.prog) (t := 62) strKeyOk Try.underlying62 Try.underlying9 key (.slice (some ⟨g', 0, none⟩) 1 cap'); obtain ⟨t0, t1, t2, t3⟩ := keep4b (Keeps.setBlock w5 (w.heap.size + 1) ob) HSB.out (by omega) r0 r1 r2 r3))
  go_end0
  have hg' : g' = W3.heap.size + 1 := by
    rcases hat with h | h
    · simp [Value.ownBlock] at h
    · simpa [Value.ownBlock] using h
  have hvs : versOf R.hist key = [] := by unfold versOf; rw [HX.out]; rfl
  have hkk : Keeps (fun k => k = w.heap.size + 1) W3 (Go.ChangeMaps.setBlock w5 (w.heap.size + 1) ob) := (hk5.mono (fun _ _ h => h.elim)).tr (Keeps.setBlock w5 (w.heap.size + 1) ob) (fun _ h => h)
  refine ⟨rfl, (.slice (some ⟨g1, 0, none⟩) (R.keys.length + 1) cap1), w.heap.size + 1, .slice (some ⟨g', 0, none⟩) 1 cap', ?_, ?_, c1, fun g hg => ?_, .inr ⟨HVM.out, by omega⟩⟩
  · rw [if_neg (by rw [HIN.out]; simp), hvs, List.nil_append]
    refine HS3.out.added key hkk (fun k _ hs => .inr (.inr (.inl (by rw [hs])))) ?_ ?_ hM1 ?_ (fun g hg => .inl hg) (fun g hg => ?_) (.inl rfl) ?_
    · exact (hkk.block R.sb plt HSB.out).trans HS3.out.top
    · refine HS3.out.past.keysRow.kept hkk (fun g hg e => ?_)
      have hg2 : g1 = g := by simpa [Value.ownBlock] using hg
      exact hg1.2.1 (hg2.trans e)
    · have := hrow'.kept (Keeps.setBlock w5 (w.heap.size + 1) ob) (fun g hg e => by
        have hg2 : g' = g := by simpa [Value.ownBlock] using hg
        have e' : g = w.heap.size + 1 := e
        omega)
      simpa using this
    · have hg2 : g' = g := by simpa [Value.ownBlock] using hg
      right; omega
    · have h1 : g1 ≠ g' := by have := G3 g1 rfl; omega
      have h2 : g' ≠ w.heap.size + 1 := by omega
      simp [Value.ownBlock, h1, h2, hg1.2.1]
  · have h1 : Keeps (· ∈ R.fp) w (((w.setCell ⟨R.sb, 8, none⟩ (.map (some (w.heap.size + 1)))).alloc (.cells #[.int .i64 v.state, .string v.value, .bool v.gone] 79)).alloc (.map #[] 0)) := HK0.out.mono (fun k _ h => by have h' : k = R.sb := h; simp [Rep.fp, h'])
    have h2 : Keeps (· ∈ R.fp) w W3 := h1.trans HK3.out (fun k hk h => by
      rcases h with h | rfl
      · simp only [Rep.fp, Rep.fpPast, List.mem_cons, List.mem_append]
        exact .inr (.inr (.inl (.inl (by simp [h]))))
      · simp [Rep.fp])
    exact h2.trans hkk (fun k hk h => by have h' : k = w.heap.size + 1 := h; omega)
  · have hg2 : g' = g := by simpa [Value.ownBlock] using hg
    right; omega

end Go.Proofs.Ytfcocbcihhdbkaa
