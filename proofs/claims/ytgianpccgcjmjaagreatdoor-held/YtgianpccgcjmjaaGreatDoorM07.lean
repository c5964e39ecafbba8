import Derived.Test.YtgianpccgcjmjaaGreatDoorM06

/- Add of a key that has no version. -/
namespace Go.Proofs.YtgianpccgcjmjaaGreatDoor
open Go.RowKit

/-- The list of keys laid anew. -/
theorem StoreAt.keysSet {w w' : World} {R : Rep} {S : Nat → Prop} {kv' : Value} {keys' : List ByteArray} (h : StoreAt w R) (hk : Keeps S w w') (hS : ∀ k, k < w.heap.size → S k → k = R.sb ∨ R.kv.ownBlock = some k)
    (ht : w'.heap[R.sb]? = some (.cells (topCells { R with kv := kv' }) 62 (0, 0))) (hkr : Row w' 9 1 kv' keys'.length (keys'.map Value.string)) (c1 : ∀ g, kv'.ownBlock = some g → R.kv.ownBlock = some g ∨ w.heap.size ≤ g) :
    StoreAt w' { R with kv := kv', keys := keys' } := by
  have hlt := fp_lt h
  have hnd := h.nodup
  have hn2 : ∀ k ∈ R.fpWorks, ¬ S k := by
    intro k hk1 hs
    have hkf : k ∈ R.fp := by simp [Rep.fp, hk1]
    rcases hS k (hlt k hkf) hs with e | e
    · simp only [Rep.fp, List.nodup_cons, List.mem_append, not_or] at hnd
      exact hnd.1.1 (e ▸ hk1)
    · simp only [Rep.fp, Rep.fpPast, List.nodup_cons, List.nodup_append] at hnd
      exact hnd.2.2.2 k hk1 k (by simp [e]) rfl
  have hn3 : ∀ k ∈ R.vm.toList ++ R.hist.flatMap (fun p => p.2.sl.ownBlock.toList), ¬ S k := by
    intro k hk1 hs
    have hkf : k ∈ R.fp := by
      simp only [Rep.fp, Rep.fpPast, List.mem_cons, List.mem_append] at hk1 ⊢
      rcases hk1 with h | h
      · exact .inr (.inr (.inl (.inr h)))
      · exact .inr (.inr (.inr h))
    rcases hS k (hlt k hkf) hs with e | e
    · subst e
      simp only [Rep.fp, Rep.fpPast, List.nodup_cons, List.mem_append, not_or] at hnd hk1
      rcases hk1 with h | h
      · exact hnd.1.2.1.2 h
      · exact hnd.1.2.2 h
    · have hp := hnd
      simp only [Rep.fp, Rep.fpPast, List.nodup_cons, List.nodup_append, List.append_assoc] at hp
      have hd := hp.2.2.1.2.2
      exact hd k (by simp [e]) k (by simpa [List.mem_append] using hk1) rfl
  have hw := h.works.kept hk hn2
  refine ⟨ht, ⟨hw.worksMap, hw.worksEach, hw.pinsMap, hw.copyMap⟩, ⟨hkr, h.past.histMap.kept hk (fun b hb => hn3 b (by simp [hb])), fun p hp => (h.past.histEach p hp).kept hk (fun g hg => hn3 g (List.mem_append_right _ (List.mem_flatMap.2 ⟨p, hp, by simp [hg]⟩)))⟩, ?_⟩
  have hp : ∀ kv : Value, (Rep.fp { R with kv := kv, keys := keys' }).Perm (kv.ownBlock.toList ++ (R.sb :: (R.fpWorks ++ (R.vm.toList ++ R.hist.flatMap (fun p => p.2.sl.ownBlock.toList))))) := by
    intro kv
    show (R.sb :: (R.fpWorks ++ (kv.ownBlock.toList ++ R.vm.toList ++ R.hist.flatMap (fun p => p.2.sl.ownBlock.toList)))).Perm _
    rw [List.append_assoc]
    exact ((List.perm_append_comm_assoc _ _ _).cons _).trans List.perm_middle.symm
  rw [(hp kv').nodup_iff]
  have h0 : (R.kv.ownBlock.toList ++ (R.sb :: (R.fpWorks ++ (R.vm.toList ++ R.hist.flatMap (fun p => p.2.sl.ownBlock.toList))))).Nodup := ((hp R.kv).nodup_iff).1 hnd
  rw [List.nodup_append] at h0 ⊢
  refine ⟨by cases kv'.ownBlock <;> simp, h0.2.1, ?_⟩
  intro a ha c hc e
  subst e
  have ha' : kv'.ownBlock = some a := by simpa using ha
  rcases c1 a ha' with h1 | h1
  · exact h0.2.2 a (by simp [h1]) a hc rfl
  · have : a ∈ R.fp := (hp R.kv).mem_iff.2 (List.mem_append_right _ hc)
    have := hlt a this
    omega

/-- The new version's three cells, in a block that was just laid. -/
theorem add_news0 (W : World) (v : Ver) : ∀ j u, v.cells[j]? = some u → ((W.alloc (.cells #[.int .i64 v.state, .string v.value, .bool v.gone] 109)).drew).cell? ((⟨W.heap.size, 0, none⟩ : Addr).add j) = some u := by
  intro j u hj
  rw [Addr.add_lit, Nat.zero_add]
  have hh : ((W.alloc (.cells #[.int .i64 v.state, .string v.value, .bool v.gone] 109)).drew).heap[W.heap.size]? = some (.cells #[.int .i64 v.state, .string v.value, .bool v.gone] 109 (0, 0)) := heap_new W _
  rw [cell_of_heap hh]
  simpa [Ver.cells] using hj

theorem keep4c {S : Nat → Prop} {W W' : World} {c s : Nat} {u v x y : Value} (hk : Keeps S W W') (hs : ¬ S s) (hc : ¬ S c) (h1 : W.cell? ⟨s, 8, none⟩ = some u) (h2 : W.cell? ⟨c, 0, none⟩ = some v) (h3 : W.cell? ⟨c, 1, none⟩ = some x) (h4 : W.cell? ⟨c, 2, none⟩ = some y) :
    W'.cell? ⟨s, 8, none⟩ = some u ∧ W'.cell? ⟨c, 0, none⟩ = some v ∧ W'.cell? ⟨c, 1, none⟩ = some x ∧ W'.cell? ⟨c, 2, none⟩ = some y :=
  ⟨hk.cell (p := ⟨s, 8, none⟩) h1 hs, hk.cell (p := ⟨c, 0, none⟩) h2 hc, hk.cell (p := ⟨c, 1, none⟩) h3 hc, hk.cell (p := ⟨c, 2, none⟩) h4 hc⟩

theorem Row.one {w : World} {e : TypeId} {size : Nat} {v : Value} {xs : List Value} (h : Row w e size v (0 + 1) ([] ++ xs)) : ∃ g cap, v = .slice (some ⟨g, 0, none⟩) 1 cap ∧ Row w e size (.slice (some ⟨g, 0, none⟩) 1 cap) 1 xs := by
  obtain ⟨g, cap, rfl⟩ := h.succ
  exact ⟨g, cap, rfl, by simpa using h⟩

set_option maxRecDepth 100000 in
set_option maxHeartbeats 1000000 in
theorem add_new (R : Rep) (key : ByteArray) (v : Ver) (b : Nat) (w : World) (h : StoreAt w R) (hvm : R.vm = some b) (hx : look R.hist key = none) (hin : memB R.keys key = false) (hrs : Rises R.keys) (hl : R.keys.length < 1000000000000) :
    Calls Tryz.prog 108 #[.pointer (some ⟨R.sb, 7, none⟩), .string key, .agg #[.int .i64 v.state, .string v.value, .bool v.gone]] w fun e w' => e = .returned (.tuple #[]) ∧ AddPost R key v w w' := by
  have hM : MapAt Value.string w b (R.hist.map fun p => (p.1, p.2.sl)) := by have := h.past.histMap; rw [hvm] at this; exact this
  have c5 : w.cell? ⟨R.sb, 7, none⟩ = some R.kv := h.cell 7
  have c6 : w.cell? ⟨R.sb, 8, none⟩ = some (.map (some b)) := (h.cell 8).trans (by rw [← hvm]; rfl)
  have hlt := h.lt
  have hlt1 : R.sb < w.heap.size + 1 := by omega
  have hem := eqVm_some
  have hnot : ∀ (x : Bool) (w : World), (Op.unary .not (.bool x)).run Tryz.prog w = .ok (.bool (!x)) w := fun _ _ => rfl
  have HLK : Hid (look (R.hist.map fun p => (p.1, p.2.sl)) key = none) := by unfold Hid; rw [look_map, hx]; rfl
  have hbsn := search_keys R.kv R.keys key (w.alloc (.cells #[.int .i64 v.state, .string v.value, .bool v.gone] 109)) (h.past.keysRow.kept (Keeps.alloc (fun _ => False) _ _) (fun _ _ h => h)) hrs (by omega)
  rw [hin] at hbsn
  have HST : Hid (StoreAt w R) := h
  have HX : Hid (look R.hist key = none) := hx
  have HIN : Hid (memB R.keys key = false) := hin
  have HVM : Hid (R.vm = some b) := hvm
  have HM : Hid (MapAt Value.string w b (R.hist.map fun p => (p.1, p.2.sl))) := hM
  have HL : Hid (R.keys.length < 1000000000000) := hl
  have HINS : Hid (∀ w1, Keeps (fun _ => False) (w.alloc (.cells #[.int .i64 v.state, .string v.value, .bool v.gone] 109)) w1 → Calls Tryz.prog 140 #[R.kv, .int .i64 (below R.keys key), .slice (some ⟨w1.heap.size, 0, none⟩) 1 1] (w1.alloc (.cells #[.string key] 9)) fun e w' => ∃ g cap, e = .returned (.slice (some ⟨g, 0, none⟩) (R.keys.length + 1) cap) ∧ Row w' 9 1 (.slice (some ⟨g, 0, none⟩) (R.keys.length + 1) cap) (R.keys.length + 1) ((insAt R.keys (below R.keys key) key).map Value.string) ∧ Keeps (fun k => R.kv.ownBlock = some k) (w1.alloc (.cells #[.string key] 9)) w' ∧ (R.kv.ownBlock = some g ∨ (w1.alloc (.cells #[.string key] 9)).heap.size ≤ g)) := fun w1 hk1 =>
    insert_key R.kv R.keys (below R.keys key) key w1.heap.size _ (((h.past.keysRow.kept (Keeps.alloc (fun _ => False) _ _) (fun _ _ h => h)).kept hk1 (fun _ _ h => h)).kept (Keeps.alloc (fun _ => False) _ _) (fun _ _ h => h)) (below_le _ _) hl (heap_new w1 _) (fun e => by have := h.past.keysRow.lt e; have := hk1.size; simp at this; omega)
  have HKB : Hid (∀ g, R.kv.ownBlock = some g → g ≠ R.sb ∧ g ≠ b ∧ g < w.heap.size) := fun g hg => by
    have hn := ((fp_perm R key).nodup_iff).1 h.nodup
    rw [List.nodup_append] at hn
    have hd := hn.2.2
    exact ⟨fun e => hd g (by simp [hg]) g (List.mem_append_right _ (by simp [Rep.restOf, e])) rfl, fun e => hd g (by simp [hg]) g (List.mem_append_right _ (by simp [Rep.restOf, hvm, e])) rfl, h.past.keysRow.lt hg⟩
  have HSB : Hid (R.sb ≠ b) := by
    have hn := h.nodup
    simp only [Rep.fp, Rep.fpPast, List.nodup_cons, List.mem_append, not_or] at hn
    exact fun e => hn.1.2.1.2 (by simp [hvm, e])
  have hbl : b < w.heap.size := hM.lt
  obtain ⟨i0, hi, hz0, hz1, hz2⟩ := info_parts Tryz.infoVersion
  clear h hx hin hvm hM hl hrs
  go_enter Tryz.func108, Tryz.ntmps108
  go_wp2_with (first
    | (at_lookup; go_must (refine wpList_lookup_ok_at _ rfl _ _ 58 rfl 9 116 strKeyOk Tryz.underlying58 Tryz.underlying9 _ (Tryz.zeroVersions _) b rfl key rfl _ (HM.out.kept (Keeps.alloc (fun _ => False) _ _) (fun h => h)) ?_; rw [HLK.out]; simp only [Option.getD_none, Option.isSome_none]))
    | (go_at_call 93; go_must (refine hbsn.mono ?_; rintro e w1 ⟨rfl, hk1⟩; have hKw1 : Keeps (fun _ => False) w w1 := (Keeps.alloc (fun _ => False) _ _).tr hk1 (fun _ h => h); have d5 : w1.cell? ⟨R.sb, 7, none⟩ = some R.kv := hKw1.cell (p := ⟨R.sb, 7, none⟩) c5 (fun h => h); have dlt : R.sb < w1.heap.size := by (have := hKw1.size; omega)))
    | (go_at_call 140; go_must (refine (HINS.out w1 hk1).mono ?_; rintro e w2 ⟨g1, cap1, rfl, hr2, hk2, hat2⟩; have hKw2 : Keeps (fun k => R.kv.ownBlock = some k) w w2 := ((hKw1.mono (fun _ _ h => h.elim)).al _).tr hk2 (fun _ h => h); have f5 : w2.cell? ⟨R.sb, 7, none⟩ = some R.kv := hKw2.cell (p := ⟨R.sb, 7, none⟩) c5 (fun e => (HKB.out _ e).1 rfl); have f5f : w2.frozen? ⟨R.sb, 7, none⟩ = false := by (rw [hKw2.frozen (p := ⟨R.sb, 7, none⟩) hlt (fun e => (HKB.out _ e).1 rfl)]; exact HST.out.frozen 7))))
  have hg1 : g1 ≠ R.sb ∧ g1 ≠ b ∧ (R.kv.ownBlock = some g1 ∨ w.heap.size < g1) := by
    rcases hat2 with e | e
    · exact ⟨(HKB.out g1 e).1, (HKB.out g1 e).2.1, .inl e⟩
    · have := hKw1.size
      have := hk1.size
      simp at e this
      exact ⟨by omega, by omega, .inr (by omega)⟩
  have hT2 : w2.heap[R.sb]? = some (.cells (topCells R) 62 (0, 0)) := (hKw2.block R.sb hlt (fun e => (HKB.out _ e).1 rfl)).trans HST.out.top
  have hB2 : w2.heap[w.heap.size]? = some (.cells #[.int .i64 v.state, .string v.value, .bool v.gone] 109 (0, 0)) := by
    have h1 : w1.heap[w.heap.size]? = some (.cells #[.int .i64 v.state, .string v.value, .bool v.gone] 109 (0, 0)) := box_kept hk1 (fun h => h)
    have hz := hk1.size
    simp at hz
    rw [hk2.block w.heap.size (by simp; omega) (fun e => by have := (HKB.out _ e).2.2; omega), Below.heap_alloc _ _ _ (by omega)]
    exact h1
  have K3 : Keeps (fun k => R.kv.ownBlock = some k ∨ k = R.sb) w (w2.setCell ⟨R.sb, 7, none⟩ (.slice (some ⟨g1, 0, none⟩) (R.keys.length + 1) cap1)) := (hKw2.mono (fun _ _ h => .inl h)).st (.inr (.inr rfl)) _
  have c1 : ∀ g, (Value.slice (some ⟨g1, 0, none⟩) (R.keys.length + 1) cap1).ownBlock = some g → R.kv.ownBlock = some g ∨ w.heap.size ≤ g := fun g hg => by
    have hg' : g1 = g := by simpa [Value.ownBlock] using hg
    subst hg'
    rcases hg1.2.2 with e | e
    · exact .inl e
    · right; omega
  have S3 := HST.out.keysSet (keys' := insAt R.keys (below R.keys key) key) K3 (fun k _ hs => hs.elim (fun e => .inr e) (fun e => .inl e)) ((heap_setCell_same (i := 7) hT2 _).trans (by simp [topCells])) (by
    have hr3 := hr2.kept (Keeps.setCell w2 ⟨R.sb, 7, none⟩ (.slice (some ⟨g1, 0, none⟩) (R.keys.length + 1) cap1)) (fun g hg => by
      have hg' : g1 = g := by simpa [Value.ownBlock] using hg
      exact fun e => hg1.1 (hg'.trans e))
    rw [insAt_length _ _ _ (below_le _ _)]
    exact hr3) c1
  have B3 : (w2.setCell ⟨R.sb, 7, none⟩ (.slice (some ⟨g1, 0, none⟩) (R.keys.length + 1) cap1)).heap[w.heap.size]? = some (.cells #[.int .i64 v.state, .string v.value, .bool v.gone] 109 (0, 0)) := (Below.heap_setCell _ _ _ _ (by simp only; omega)).trans hB2
  have z3 : w.heap.size + 2 ≤ (w2.setCell ⟨R.sb, 7, none⟩ (.slice (some ⟨g1, 0, none⟩) (R.keys.length + 1) cap1)).heap.size := by
    have h1 := hk1.size
    have h2 := hk2.size
    simp at h1 h2
    simp
    omega
  have G3 : ∀ g, (Value.slice (some ⟨g1, 0, none⟩) (R.keys.length + 1) cap1).ownBlock = some g → g < (w2.setCell ⟨R.sb, 7, none⟩ (.slice (some ⟨g1, 0, none⟩) (R.keys.length + 1) cap1)).heap.size := fun g hg => S3.past.keysRow.lt hg
  clear hT2 hB2 hk1 hKw1 hKw2 hk2 hr2 d5 dlt f5 f5f hbsn
  generalize w2.setCell ⟨R.sb, 7, none⟩ (.slice (some ⟨g1, 0, none⟩) (R.keys.length + 1) cap1) = W3 at K3 S3 B3 z3 G3
  have p0 : W3.cell? ⟨w.heap.size, 0, none⟩ = some (.int .i64 v.state) := cell_of_heap B3 0
  have p1 : W3.cell? ⟨w.heap.size, 1, none⟩ = some (.string v.value) := cell_of_heap B3 1
  have p2 : W3.cell? ⟨w.heap.size, 2, none⟩ = some (.bool v.gone) := cell_of_heap B3 2
  have p6 : W3.cell? ⟨R.sb, 8, none⟩ = some (.map (some b)) := (S3.cell 8).trans (by rw [← HVM.out]; rfl)
  have plt : R.sb < W3.heap.size := S3.lt
  have HS3 : Hid (StoreAt W3 { R with kv := .slice (some ⟨g1, 0, none⟩) (R.keys.length + 1) cap1, keys := insAt R.keys (below R.keys key) key }) := S3
  have HK3 : Hid (Keeps (fun k => R.kv.ownBlock = some k ∨ k = R.sb) w W3) := K3
  have HM3 : Hid (MapAt Value.string W3 b (R.hist.map fun p => (p.1, p.2.sl))) := by have := S3.past.histMap; simp only [HVM.out] at this; exact this
  clear S3 K3 B3 c5 c6
  go_region_held3 (fun W => W.cell? ⟨R.sb, 8, none⟩ = some (.map (some b)) ∧ W.cell? ⟨w.heap.size, 0, none⟩ = some (.int .i64 v.state) ∧ W.cell? ⟨w.heap.size, 1, none⟩ = some (.string v.value) ∧ W.cell? ⟨w.heap.size, 2, none⟩ = some (.bool v.gone)) (go_keep)
    ((refine step_append_row _ (by rfl) _ _ 116 (by rfl) 109 i0 _ 3 32 Tryz.underlying116 hi hz0 hz1 hz2 (by rfl) (.slice none 0 0) 0 [] (by rfl) (Row.nil _ _ _) ⟨W3.heap.size, 0, none⟩ 1 1 v.cells (by rfl) (by rfl) (add_news0 W3 v) (by simp [Ver.cells, Value.oneCell']) (by unfold maxLen; omega) (by omega) ?_; intro v' w5 hown' hgrow _ hat; obtain ⟨g', cap', rfl, hrow'⟩ := hown'.one; have hk5 : Keeps (fun _ => False) W3 w5 := (((Keeps.refl (fun _ => False) W3).al _).dr).tr (Keeps.grown hgrow) (fun _ h => by simp [Value.ownBlock] at h); obtain ⟨r0, r1, r2, r3⟩ := keep4c hk5 (fun h => h) (fun h => h) p6 p0 p1 p2; obtain ⟨ob, hrun, hM1⟩ := (HM3.out.kept hk5 (fun h => h)).update (P := Tryz.prog) (t := 58) strKeyOk Tryz.underlying58 Tryz.underlying9 key (.slice (some ⟨g', 0, none⟩) 1 cap'); obtain ⟨t0, t1, t2, t3⟩ := keep4b (Keeps.setBlock w5 b ob) HSB.out (by omega) r0 r1 r2 r3))
  go_end0
  have hg' : g' = W3.heap.size + 1 := by
    rcases hat with h | h
    · simp [Value.ownBlock] at h
    · simpa [Value.ownBlock] using h
  have hvs : versOf R.hist key = [] := by unfold versOf; rw [HX.out]; rfl
  have hsl : slOf R.hist key = .slice none 0 0 := by unfold slOf; rw [HX.out]; rfl
  have hkk : Keeps (fun k => k = b) W3 (Go.ChangeMaps.setBlock w5 b ob) := (hk5.mono (fun _ _ h => h.elim)).tr (Keeps.setBlock w5 b ob) (fun _ h => h)
  have hb3 : b < W3.heap.size := HM3.out.lt
  refine ⟨rfl, .slice (some ⟨g1, 0, none⟩) (R.keys.length + 1) cap1, b, .slice (some ⟨g', 0, none⟩) 1 cap', ?_, ?_, c1, fun g hg => ?_, .inl HVM.out⟩
  · rw [if_neg (by rw [HIN.out]; simp), hvs, List.nil_append]
    refine HS3.out.added key hkk (fun k _ hs => .inr (.inr (.inl (by rw [hs]; exact HVM.out)))) ?_ ?_ hM1 ?_ (fun g hg => .inl hg) (fun g hg => ?_) (.inl HVM.out) ?_
    · have e : topCells { R with kv := Value.slice (some ⟨g1, 0, none⟩) (R.keys.length + 1) cap1, keys := insAt R.keys (below R.keys key) key, vm := some b } = topCells { R with kv := Value.slice (some ⟨g1, 0, none⟩) (R.keys.length + 1) cap1, keys := insAt R.keys (below R.keys key) key } := by simp [topCells, HVM.out]
      show _ = some (Obj.cells (topCells { R with kv := Value.slice (some ⟨g1, 0, none⟩) (R.keys.length + 1) cap1, keys := insAt R.keys (below R.keys key) key, vm := some b }) _ _)
      rw [e]
      exact (hkk.block R.sb plt HSB.out).trans HS3.out.top
    · refine HS3.out.past.keysRow.kept hkk (fun g hg e => ?_)
      have hg2 : g1 = g := by simpa [Value.ownBlock] using hg
      exact hg1.2.1 (hg2.trans e)
    · have := hrow'.kept (Keeps.setBlock w5 b ob) (fun g hg e => by
        have hg2 : g' = g := by simpa [Value.ownBlock] using hg
        have e' : g = b := e
        omega)
      simpa using this
    · have hg2 : g' = g := by simpa [Value.ownBlock] using hg
      right; omega
    · have h1 : g1 ≠ g' := by have := G3 g1 rfl; omega
      have h2 : g' ≠ b := by omega
      simp [Value.ownBlock, h1, h2, hg1.2.1]
  · refine HK3.out.mono (fun k hk h => ?_) |>.trans hkk (fun k hk h => ?_)
    · rcases h with h | rfl
      · simp only [Rep.fp, Rep.fpPast, List.mem_cons, List.mem_append]
        exact .inr (.inr (.inl (.inl (by simp [h]))))
      · simp [Rep.fp]
    · have h' : k = b := h
      subst h'
      simp only [Rep.fp, Rep.fpPast, List.mem_cons, List.mem_append]
      exact .inr (.inr (.inl (.inr (by simp [HVM.out]))))
  · have hg2 : g' = g := by simpa [Value.ownBlock] using hg
    right; omega

end Go.Proofs.YtgianpccgcjmjaaGreatDoor

/- Add of the first key. -/
namespace Go.Proofs.YtgianpccgcjmjaaGreatDoor
open Go.RowKit

/-- The map of versions is made. -/
theorem StoreAt.vmSet {w : World} {R : Rep} (h : StoreAt w R) (hvm : R.vm = none) (hh : R.hist = []) (o : Obj) : StoreAt (((w.setCell ⟨R.sb, 8, none⟩ (.map (some (w.heap.size + 1)))).alloc o).alloc (.map #[] 0)) { R with vm := some (w.heap.size + 1) } := by
  have hlt := fp_lt h
  have hnd := h.nodup
  have hk : Keeps (· = R.sb) w (((w.setCell ⟨R.sb, 8, none⟩ (.map (some (w.heap.size + 1)))).alloc o).alloc (.map #[] 0)) := ((Keeps.setCell w ⟨R.sb, 8, none⟩ _).al _).al _
  have hne : ∀ k ∈ R.fpWorks ++ R.fpPast, ¬ k = R.sb := by
    intro k hk1 e
    subst e
    simp only [Rep.fp, List.nodup_cons] at hnd
    exact hnd.1 hk1
  have hw := h.works.kept hk (fun k hk1 => hne k (List.mem_append_left _ hk1))
  refine ⟨?_, ⟨hw.worksMap, hw.worksEach, hw.pinsMap, hw.copyMap⟩, ⟨h.past.keysRow.kept hk (fun g hg => hne g (List.mem_append_right _ (by simp [Rep.fpPast, hg]))), ?_, ?_⟩, ?_⟩
  · show (World.alloc _ _).heap[R.sb]? = _
    rw [Below.heap_alloc _ _ _ (by simp; have := h.lt; omega), Below.heap_alloc _ _ _ (by simp; have := h.lt; omega), heap_setCell_same h.top]
    simp [topCells]
  · show MapAt _ _ _ _
    rw [hh]
    have := MapAt.made Value.string ((w.setCell ⟨R.sb, 8, none⟩ (.map (some (w.heap.size + 1)))).alloc o)
    simpa using this
  · intro p hp
    have hp' : p ∈ R.hist := hp
    rw [hh] at hp'
    cases hp'
  · have e : Rep.fp { R with vm := some (w.heap.size + 1) } = R.sb :: (R.fpWorks ++ (R.kv.ownBlock.toList ++ [w.heap.size + 1] ++ R.hist.flatMap (fun p => p.2.sl.ownBlock.toList))) := rfl
    have e0 : R.fp = R.sb :: (R.fpWorks ++ (R.kv.ownBlock.toList ++ R.hist.flatMap (fun p => p.2.sl.ownBlock.toList))) := by simp [Rep.fp, Rep.fpPast, hvm]
    have hp : (Rep.fp { R with vm := some (w.heap.size + 1) }).Perm ((w.heap.size + 1) :: R.fp) := by
      rw [e, e0]
      refine List.Perm.trans ?_ (List.Perm.swap _ _ _)
      refine List.Perm.cons _ ?_
      rw [List.append_assoc, List.singleton_append]
      refine List.Perm.trans (List.Perm.append_left _ List.perm_middle) ?_
      exact List.perm_middle
    rw [hp.nodup_iff]
    exact List.nodup_cons.2 ⟨fun h' => by have := hlt _ h'; omega, hnd⟩

set_option maxRecDepth 100000 in
set_option maxHeartbeats 1000000 in
theorem add_first (R : Rep) (key : ByteArray) (v : Ver) (w : World) (h : StoreAt w R) (hvm : R.vm = none) (hin : memB R.keys key = false) (hrs : Rises R.keys) (hl : R.keys.length < 1000000000000) :
    Calls Tryz.prog 108 #[.pointer (some ⟨R.sb, 7, none⟩), .string key, .agg #[.int .i64 v.state, .string v.value, .bool v.gone]] w fun e w' => e = .returned (.tuple #[]) ∧ AddPost R key v w w' := by
  have hh0 : R.hist = [] := by have := h.past.histMap; rw [hvm] at this; exact List.map_eq_nil_iff.1 this
  have c5 : w.cell? ⟨R.sb, 7, none⟩ = some R.kv := h.cell 7
  have c6 : w.cell? ⟨R.sb, 8, none⟩ = some (.map none) := (h.cell 8).trans (by rw [← hvm]; rfl)
  have c6f : w.frozen? ⟨R.sb, 8, none⟩ = false := h.frozen 8
  have hlt := h.lt
  have hlt1 : R.sb < w.heap.size + 1 := by omega
  have hlt2 : R.sb < w.heap.size + 1 + 1 := by omega
  have hmm := @run_makeMap Tryz.prog
  have S0 : StoreAt (((w.setCell ⟨R.sb, 8, none⟩ (.map (some (w.heap.size + 1)))).alloc (.cells #[.int .i64 v.state, .string v.value, .bool v.gone] 109)).alloc (.map #[] 0)) { R with vm := some (w.heap.size + 1) } := h.vmSet hvm hh0 (.cells #[.int .i64 v.state, .string v.value, .bool v.gone] 109)
  have HK0 : Hid (Keeps (· = R.sb) w (((w.setCell ⟨R.sb, 8, none⟩ (.map (some (w.heap.size + 1)))).alloc (.cells #[.int .i64 v.state, .string v.value, .bool v.gone] 109)).alloc (.map #[] 0))) := ((Keeps.setCell w ⟨R.sb, 8, none⟩ _).al _).al _
  have hM : MapAt Value.string (((w.setCell ⟨R.sb, 8, none⟩ (.map (some (w.heap.size + 1)))).alloc (.cells #[.int .i64 v.state, .string v.value, .bool v.gone] 109)).alloc (.map #[] 0)) (w.heap.size + 1) (R.hist.map fun p => (p.1, p.2.sl)) := S0.past.histMap
  have d5z : (((w.setCell ⟨R.sb, 8, none⟩ (.map (some (w.heap.size + 1)))).alloc (.cells #[.int .i64 v.state, .string v.value, .bool v.gone] 109)).alloc (.map #[] 0)).cell? ⟨R.sb, 7, none⟩ = some R.kv := S0.cell 7
  have hem := eqVm_none
  have hnot : ∀ (x : Bool) (w : World), (Op.unary .not (.bool x)).run Tryz.prog w = .ok (.bool (!x)) w := fun _ _ => rfl
  have HLK : Hid (look (R.hist.map fun p => (p.1, p.2.sl)) key = none) := by unfold Hid; rw [hh0]; rfl
  have hbsn := search_keys R.kv R.keys key (((w.setCell ⟨R.sb, 8, none⟩ (.map (some (w.heap.size + 1)))).alloc (.cells #[.int .i64 v.state, .string v.value, .bool v.gone] 109)).alloc (.map #[] 0)) S0.past.keysRow hrs (by omega)
  rw [hin] at hbsn
  have HST : Hid (StoreAt w R) := h
  have HX : Hid (look R.hist key = none) := by unfold Hid; rw [hh0]; rfl
  have HIN : Hid (memB R.keys key = false) := hin
  have HVM : Hid (R.vm = none) := hvm
  have HM : Hid (MapAt Value.string (((w.setCell ⟨R.sb, 8, none⟩ (.map (some (w.heap.size + 1)))).alloc (.cells #[.int .i64 v.state, .string v.value, .bool v.gone] 109)).alloc (.map #[] 0)) (w.heap.size + 1) (R.hist.map fun p => (p.1, p.2.sl))) := hM
  have HS0 : Hid (StoreAt (((w.setCell ⟨R.sb, 8, none⟩ (.map (some (w.heap.size + 1)))).alloc (.cells #[.int .i64 v.state, .string v.value, .bool v.gone] 109)).alloc (.map #[] 0)) { R with vm := some (w.heap.size + 1) }) := S0
  have HL : Hid (R.keys.length < 1000000000000) := hl
  have HINS : Hid (∀ w1, Keeps (fun _ => False) (((w.setCell ⟨R.sb, 8, none⟩ (.map (some (w.heap.size + 1)))).alloc (.cells #[.int .i64 v.state, .string v.value, .bool v.gone] 109)).alloc (.map #[] 0)) w1 → Calls Tryz.prog 140 #[R.kv, .int .i64 (below R.keys key), .slice (some ⟨w1.heap.size, 0, none⟩) 1 1] (w1.alloc (.cells #[.string key] 9)) fun e w' => ∃ g cap, e = .returned (.slice (some ⟨g, 0, none⟩) (R.keys.length + 1) cap) ∧ Row w' 9 1 (.slice (some ⟨g, 0, none⟩) (R.keys.length + 1) cap) (R.keys.length + 1) ((insAt R.keys (below R.keys key) key).map Value.string) ∧ Keeps (fun k => R.kv.ownBlock = some k) (w1.alloc (.cells #[.string key] 9)) w' ∧ (R.kv.ownBlock = some g ∨ (w1.alloc (.cells #[.string key] 9)).heap.size ≤ g)) := fun w1 hk1 =>
    insert_key R.kv R.keys (below R.keys key) key w1.heap.size _ ((S0.past.keysRow.kept hk1 (fun _ _ h => h)).kept (Keeps.alloc (fun _ => False) _ _) (fun _ _ h => h)) (below_le _ _) hl (heap_new w1 _) (fun e => by have := h.past.keysRow.lt e; have := hk1.size; simp at this; omega)
  have HKB : Hid (∀ g, R.kv.ownBlock = some g → g ≠ R.sb ∧ g < w.heap.size) := fun g hg => by
    have hn := ((fp_perm R key).nodup_iff).1 h.nodup
    rw [List.nodup_append] at hn
    have hd := hn.2.2
    exact ⟨fun e => hd g (by simp [hg]) g (List.mem_append_right _ (by simp [Rep.restOf, e])) rfl, h.past.keysRow.lt hg⟩
  obtain ⟨i0, hi, hz0', hz1, hz2⟩ := info_parts Tryz.infoVersion
  clear h hin hvm hM hl hrs hh0 S0
  go_enter Tryz.func108, Tryz.ntmps108
  go_wp2_with (first
    | (at_lookup; go_must (refine wpList_lookup_ok_at _ rfl _ _ 58 rfl 9 116 strKeyOk Tryz.underlying58 Tryz.underlying9 _ (Tryz.zeroVersions _) (w.heap.size + 1) rfl key rfl _ HM.out ?_; rw [HLK.out]; simp only [Option.getD_none, Option.isSome_none]))
    | (go_at_call 93; go_must (refine hbsn.mono ?_; rintro e w1 ⟨rfl, hk1⟩; have hKw1 : Keeps (· = R.sb) w w1 := HK0.out.tr hk1 (fun _ h => h.elim); have d5 : w1.cell? ⟨R.sb, 7, none⟩ = some R.kv := hk1.cell (p := ⟨R.sb, 7, none⟩) d5z (fun h => h); have dlt : R.sb < w1.heap.size := by (have := hKw1.size; omega)))
    | (go_at_call 140; go_must (refine (HINS.out w1 hk1).mono ?_; rintro e w2 ⟨g1, cap1, rfl, hr2, hk2, hat2⟩; have hKw2 : Keeps (fun k => R.kv.ownBlock = some k) (((w.setCell ⟨R.sb, 8, none⟩ (.map (some (w.heap.size + 1)))).alloc (.cells #[.int .i64 v.state, .string v.value, .bool v.gone] 109)).alloc (.map #[] 0)) w2 := ((hk1.mono (fun _ _ h => h.elim)).al _).tr hk2 (fun _ h => h); have f5 : w2.cell? ⟨R.sb, 7, none⟩ = some R.kv := hKw2.cell (p := ⟨R.sb, 7, none⟩) d5z (fun e => (HKB.out _ e).1 rfl); have f5f : w2.frozen? ⟨R.sb, 7, none⟩ = false := by (rw [hKw2.frozen (p := ⟨R.sb, 7, none⟩) (by simp; omega) (fun e => (HKB.out _ e).1 rfl)]; exact HS0.out.frozen 7))))
  have hz0 : (((w.setCell ⟨R.sb, 8, none⟩ (.map (some (w.heap.size + 1)))).alloc (.cells #[.int .i64 v.state, .string v.value, .bool v.gone] 109)).alloc (.map #[] 0)).heap.size = w.heap.size + 2 := by simp
  have hg1 : g1 ≠ R.sb ∧ g1 ≠ w.heap.size + 1 ∧ (R.kv.ownBlock = some g1 ∨ w.heap.size + 2 < g1) := by
    rcases hat2 with e | e
    · have := (HKB.out g1 e).2
      exact ⟨(HKB.out g1 e).1, by omega, .inl e⟩
    · have h1 := hk1.size
      rw [hz0] at h1
      simp at e
      exact ⟨by omega, by omega, .inr (by omega)⟩
  have hT2 : w2.heap[R.sb]? = some (.cells (topCells { R with vm := some (w.heap.size + 1) }) 62 (0, 0)) := (hKw2.block R.sb (by rw [hz0]; omega) (fun e => (HKB.out _ e).1 rfl)).trans HS0.out.top
  have hB2 : w2.heap[w.heap.size]? = some (.cells #[.int .i64 v.state, .string v.value, .bool v.gone] 109 (0, 0)) := by
    rw [hKw2.block w.heap.size (by rw [hz0]; omega) (fun e => by have := (HKB.out _ e).2; omega), Below.heap_alloc _ _ _ (by simp)]
    have := heap_new (w.setCell ⟨R.sb, 8, none⟩ (.map (some (w.heap.size + 1)))) (.cells #[.int .i64 v.state, .string v.value, .bool v.gone] 109)
    simpa using this
  have K3 : Keeps (fun k => R.kv.ownBlock = some k ∨ k = R.sb) (((w.setCell ⟨R.sb, 8, none⟩ (.map (some (w.heap.size + 1)))).alloc (.cells #[.int .i64 v.state, .string v.value, .bool v.gone] 109)).alloc (.map #[] 0)) (w2.setCell ⟨R.sb, 7, none⟩ (.slice (some ⟨g1, 0, none⟩) (R.keys.length + 1) cap1)) := (hKw2.mono (fun _ _ h => .inl h)).st (.inr (.inr rfl)) _
  have c1 : ∀ g, (Value.slice (some ⟨g1, 0, none⟩) (R.keys.length + 1) cap1).ownBlock = some g → R.kv.ownBlock = some g ∨ w.heap.size ≤ g := fun g hg => by
    have hg' : g1 = g := by simpa [Value.ownBlock] using hg
    subst hg'
    rcases hg1.2.2 with e | e
    · exact .inl e
    · right; omega
  have S3 := HS0.out.keysSet (kv' := .slice (some ⟨g1, 0, none⟩) (R.keys.length + 1) cap1) (keys' := insAt R.keys (below R.keys key) key) K3 (fun k _ hs => hs.elim (fun e => .inr e) (fun e => .inl e)) ((heap_setCell_same (i := 7) hT2 _).trans (by simp [topCells])) (by
    have hr3 := hr2.kept (Keeps.setCell w2 ⟨R.sb, 7, none⟩ (.slice (some ⟨g1, 0, none⟩) (R.keys.length + 1) cap1)) (fun g hg => by
      have hg' : g1 = g := by simpa [Value.ownBlock] using hg
      exact fun e => hg1.1 (hg'.trans e))
    rw [insAt_length _ _ _ (below_le _ _)]
    exact hr3) (fun g hg => by
      have hg' : g1 = g := by simpa [Value.ownBlock] using hg
      subst hg'
      rcases hg1.2.2 with e | e
      · exact .inl e
      · right; rw [hz0]; omega)
  have B3 : (w2.setCell ⟨R.sb, 7, none⟩ (.slice (some ⟨g1, 0, none⟩) (R.keys.length + 1) cap1)).heap[w.heap.size]? = some (.cells #[.int .i64 v.state, .string v.value, .bool v.gone] 109 (0, 0)) := (Below.heap_setCell _ _ _ _ (by simp only; omega)).trans hB2
  have z3 : w.heap.size + 3 ≤ (w2.setCell ⟨R.sb, 7, none⟩ (.slice (some ⟨g1, 0, none⟩) (R.keys.length + 1) cap1)).heap.size := by
    have h1 := hk1.size
    have h2 := hk2.size
    rw [hz0] at h1
    simp at h2
    simp
    omega
  have G3 : ∀ g, (Value.slice (some ⟨g1, 0, none⟩) (R.keys.length + 1) cap1).ownBlock = some g → g < (w2.setCell ⟨R.sb, 7, none⟩ (.slice (some ⟨g1, 0, none⟩) (R.keys.length + 1) cap1)).heap.size := fun g hg => S3.past.keysRow.lt hg
  clear hT2 hB2 hk1 hKw1 hKw2 hk2 hr2 d5 dlt f5 f5f hbsn d5z
  generalize w2.setCell ⟨R.sb, 7, none⟩ (.slice (some ⟨g1, 0, none⟩) (R.keys.length + 1) cap1) = W3 at K3 S3 B3 z3 G3
  have p0 : W3.cell? ⟨w.heap.size, 0, none⟩ = some (.int .i64 v.state) := cell_of_heap B3 0
  have p1 : W3.cell? ⟨w.heap.size, 1, none⟩ = some (.string v.value) := cell_of_heap B3 1
  have p2 : W3.cell? ⟨w.heap.size, 2, none⟩ = some (.bool v.gone) := cell_of_heap B3 2
  have p6 : W3.cell? ⟨R.sb, 8, none⟩ = some (.map (some (w.heap.size + 1))) := S3.cell 8
  have plt : R.sb < W3.heap.size := S3.lt
  have HS3 : Hid (StoreAt W3 { R with kv := (.slice (some ⟨g1, 0, none⟩) (R.keys.length + 1) cap1), keys := insAt R.keys (below R.keys key) key, vm := some (w.heap.size + 1) }) := S3
  have HK3 : Hid (Keeps (fun k => R.kv.ownBlock = some k ∨ k = R.sb) (((w.setCell ⟨R.sb, 8, none⟩ (.map (some (w.heap.size + 1)))).alloc (.cells #[.int .i64 v.state, .string v.value, .bool v.gone] 109)).alloc (.map #[] 0)) W3) := K3
  have HM3 : Hid (MapAt Value.string W3 (w.heap.size + 1) (R.hist.map fun p => (p.1, p.2.sl))) := S3.past.histMap
  have HSB : Hid (R.sb ≠ w.heap.size + 1) := by unfold Hid; omega
  clear S3 K3 B3 c5 c6 c6f
  go_region_held3 (fun W => W.cell? ⟨R.sb, 8, none⟩ = some (.map (some (w.heap.size + 1))) ∧ W.cell? ⟨w.heap.size, 0, none⟩ = some (.int .i64 v.state) ∧ W.cell? ⟨w.heap.size, 1, none⟩ = some (.string v.value) ∧ W.cell? ⟨w.heap.size, 2, none⟩ = some (.bool v.gone)) (go_keep)
    ((refine step_append_row _ (by rfl) _ _ 116 (by rfl) 109 i0 _ 3 32 Tryz.underlying116 hi hz0' hz1 hz2 (by rfl) (.slice none 0 0) 0 [] (by rfl) (Row.nil _ _ _) ⟨W3.heap.size, 0, none⟩ 1 1 v.cells (by rfl) (by rfl) (add_news0 W3 v) (by simp [Ver.cells, Value.oneCell']) (by unfold maxLen; omega) (by omega) ?_; intro v' w5 hown' hgrow _ hat; obtain ⟨g', cap', rfl, hrow'⟩ := hown'.one; have hk5 : Keeps (fun _ => False) W3 w5 := (((Keeps.refl (fun _ => False) W3).al _).dr).tr (Keeps.grown hgrow) (fun _ h => by simp [Value.ownBlock] at h); obtain ⟨r0, r1, r2, r3⟩ := keep4c hk5 (fun h => h) (fun h => h) p6 p0 p1 p2; obtain ⟨ob, hrun, hM1⟩ := (HM3.out.kept hk5 (fun h => h)).update (P := Tryz.prog) (t := 58) strKeyOk Tryz.underlying58 Tryz.underlying9 key (.slice (some ⟨g', 0, none⟩) 1 cap'); obtain ⟨t0, t1, t2, t3⟩ := keep4b (Keeps.setBlock w5 (w.heap.size + 1) ob) HSB.out (by omega) r0 r1 r2 r3))
  go_end0
  have hg' : g' = W3.heap.size + 1 := by
    rcases hat with h | h
    · simp [Value.ownBlock] at h
    · simpa [Value.ownBlock] using h
  have hvs : versOf R.hist key = [] := by unfold versOf; rw [HX.out]; rfl
  have hkk : Keeps (fun k => k = w.heap.size + 1) W3 (Go.ChangeMaps.setBlock w5 (w.heap.size + 1) ob) := (hk5.mono (fun _ _ h => h.elim)).tr (Keeps.setBlock w5 (w.heap.size + 1) ob) (fun _ h => h)
  refine ⟨rfl, (.slice (some ⟨g1, 0, none⟩) (R.keys.length + 1) cap1), w.heap.size + 1, .slice (some ⟨g', 0, none⟩) 1 cap', ?_, ?_, c1, fun g hg => ?_, .inr ⟨HVM.out, by omega⟩⟩
  · rw [if_neg (by rw [HIN.out]; simp), hvs, List.nil_append]
    refine HS3.out.added key hkk (fun k _ hs => .inr (.inr (.inl (by rw [hs])))) ?_ ?_ hM1 ?_ (fun g hg => .inl hg) (fun g hg => ?_) (.inl rfl) ?_
    · exact (hkk.block R.sb plt HSB.out).trans HS3.out.top
    · refine HS3.out.past.keysRow.kept hkk (fun g hg e => ?_)
      have hg2 : g1 = g := by simpa [Value.ownBlock] using hg
      exact hg1.2.1 (hg2.trans e)
    · have := hrow'.kept (Keeps.setBlock w5 (w.heap.size + 1) ob) (fun g hg e => by
        have hg2 : g' = g := by simpa [Value.ownBlock] using hg
        have e' : g = w.heap.size + 1 := e
        omega)
      simpa using this
    · have hg2 : g' = g := by simpa [Value.ownBlock] using hg
      right; omega
    · have h1 : g1 ≠ g' := by have := G3 g1 rfl; omega
      have h2 : g' ≠ w.heap.size + 1 := by omega
      simp [Value.ownBlock, h1, h2, hg1.2.1]
  · have h1 : Keeps (· ∈ R.fp) w (((w.setCell ⟨R.sb, 8, none⟩ (.map (some (w.heap.size + 1)))).alloc (.cells #[.int .i64 v.state, .string v.value, .bool v.gone] 109)).alloc (.map #[] 0)) := HK0.out.mono (fun k _ h => by have h' : k = R.sb := h; simp [Rep.fp, h'])
    have h2 : Keeps (· ∈ R.fp) w W3 := h1.trans HK3.out (fun k hk h => by
      rcases h with h | rfl
      · simp only [Rep.fp, Rep.fpPast, List.mem_cons, List.mem_append]
        exact .inr (.inr (.inl (.inl (by simp [h]))))
      · simp [Rep.fp])
    exact h2.trans hkk (fun k hk h => by have h' : k = w.heap.size + 1 := h; omega)
  · have hg2 : g' = g := by simpa [Value.ownBlock] using hg
    right; omega

end Go.Proofs.YtgianpccgcjmjaaGreatDoor

/- What becomes of a store by the versions that a work adds. -/
namespace Go.Proofs.YtgianpccgcjmjaaGreatDoor
open Go.RowKit

theorem below_split {ks : List ByteArray} {x : ByteArray} (hr : Rises ks) (hx : x ∉ ks) : (∀ k ∈ ks.take (below ks x), ltK k x = true) ∧ (∀ k ∈ ks.drop (below ks x), ltK x k = true) := by
  constructor
  · intro k hk
    obtain ⟨j, hj, rfl⟩ := List.getElem_of_mem hk
    simp only [List.length_take] at hj
    have hjl : j < ks.length := by omega
    rw [List.getElem_take]
    exact below_lt hjl (by omega)
  · intro k hk
    obtain ⟨j, hj, rfl⟩ := List.getElem_of_mem hk
    simp only [List.length_drop] at hj
    have hjl : below ks x + j < ks.length := by omega
    have h1 := below_ge hr (x := x) hjl (Nat.le_add_right _ _)
    rw [List.getElem_drop]
    cases h2 : ltK x ks[below ks x + j] with
    | true => rfl
    | false =>
      have e := ltK_total h1 h2
      exact absurd (e ▸ List.getElem_mem hjl) hx

theorem rises_insAt {ks : List ByteArray} {x : ByteArray} (hr : Rises ks) (hx : x ∉ ks) : Rises (insAt ks (below ks x) x) := by
  obtain ⟨h1, h2⟩ := below_split hr hx
  have hr' : Rises (ks.take (below ks x) ++ ks.drop (below ks x)) := by rw [List.take_append_drop]; exact hr
  unfold Rises at hr' ⊢
  rw [List.pairwise_append] at hr'
  unfold insAt
  rw [List.pairwise_append]
  refine ⟨hr'.1, List.pairwise_cons.2 ⟨h2, hr'.2.1⟩, ?_⟩
  intro a ha b hb
  rcases List.mem_cons.1 hb with rfl | hb
  · exact h1 a ha
  · exact ltK_trans (h1 a ha) (h2 b hb)

theorem mem_insAt {ks : List ByteArray} {i : Nat} {x k : ByteArray} : k ∈ insAt ks i x ↔ k = x ∨ k ∈ ks := by
  unfold insAt
  rw [List.mem_append, List.mem_cons]
  constructor
  · rintro (h | h | h)
    · exact .inr (List.mem_of_mem_take h)
    · exact .inl h
    · exact .inr (List.mem_of_mem_drop h)
  · rintro (h | h)
    · exact .inr (.inl h)
    · have : k ∈ ks.take i ++ ks.drop i := by rw [List.take_append_drop]; exact h
      rcases List.mem_append.1 this with h | h
      · exact .inl h
      · exact .inr (.inr h)

theorem memB_insAt (ks : List ByteArray) (i : Nat) (x k : ByteArray) : memB (insAt ks i x) k = (decide (x = k) || memB ks k) := by
  rw [Bool.eq_iff_iff, memB_iff, mem_insAt]
  simp only [Bool.or_eq_true, decide_eq_true_eq, memB_iff]
  constructor
  · rintro (h | h)
    · exact .inl h.symm
    · exact .inr h
  · rintro (h | h)
    · exact .inl h.symm
    · exact .inr h

/-- What is tied between the list of keys and the versions. -/
structure Tied (R : Rep) : Prop where
  rises : Rises R.keys
  keys : ∀ k, memB R.keys k = (look R.hist k).isSome
  filled : ∀ p ∈ R.hist, p.2.vers ≠ []

/-- R' is R, but that each key of ks has one version more. -/
structure Grew (R : Rep) (ks : List ByteArray) (ver : ByteArray → Ver) (R' : Rep) : Prop where
  same : R' = { R with kv := R'.kv, keys := R'.keys, vm := R'.vm, hist := R'.hist }
  vers : ∀ k, versOf R'.hist k = if memB ks k then versOf R.hist k ++ [ver k] else versOf R.hist k
  tied : Tied R'

theorem Grew.refl {R : Rep} (h : Tied R) (ver : ByteArray → Ver) : Grew R [] ver R := ⟨rfl, fun k => by simp [memB], h⟩

theorem versOf_put (hist : List (ByteArray × HsR)) (key k : ByteArray) (x : HsR) : versOf (put hist key x) k = if key = k then x.vers else versOf hist k := by
  unfold versOf
  rw [look_put]
  split <;> simp_all

theorem memB_snoc (ks : List ByteArray) (x k : ByteArray) : memB (ks ++ [x]) k = (memB ks k || decide (x = k)) := by
  simp [memB]

/-- One version more. -/
theorem Grew.snoc {R Rj : Rep} {ks : List ByteArray} {ver : ByteArray → Ver} {key : ByteArray} {w : World} (h : Grew R ks ver Rj) (hw : StoreAt w Rj) (hn : memB ks key = false) (kv' sl' : Value) (b : Nat) :
    Grew R (ks ++ [key]) ver { Rj with kv := kv', keys := (if memB Rj.keys key then Rj.keys else insAt Rj.keys (below Rj.keys key) key), vm := some b, hist := put Rj.hist key ⟨sl', versOf Rj.hist key ++ [ver key]⟩ } := by
  have hs := h.same
  refine ⟨?_, fun k => ?_, ⟨?_, fun k => ?_, fun p hp => ?_⟩⟩
  · conv => lhs; rw [hs]
  · show versOf (put Rj.hist key ⟨sl', versOf Rj.hist key ++ [ver key]⟩) k = _
    rw [versOf_put, memB_snoc]
    by_cases e : key = k
    · subst e
      rw [if_pos rfl]
      simp only [decide_true, Bool.or_true, if_true]
      rw [h.vers, hn]
      simp
    · rw [if_neg e, h.vers]
      simp [e]
  · show Rises (if memB Rj.keys key then Rj.keys else insAt Rj.keys (below Rj.keys key) key)
    split
    · exact h.tied.rises
    · rename_i hm
      exact rises_insAt h.tied.rises (fun hx => hm ((memB_iff _ _).2 hx))
  · show memB (if memB Rj.keys key then Rj.keys else insAt Rj.keys (below Rj.keys key) key) k = (look (put Rj.hist key _) k).isSome
    rw [look_put]
    by_cases e : key = k
    · subst e
      rw [if_pos rfl]
      split
      · rename_i hm; simpa using hm
      · rw [memB_insAt]; simp
    · rw [if_neg e, ← h.tied.keys k]
      split
      · rfl
      · rw [memB_insAt]; simp [e]
  · have hp' : p ∈ put Rj.hist key ⟨sl', versOf Rj.hist key ++ [ver key]⟩ := hp
    rcases mem_put (hist_nodup hw.past) hp' with rfl | ⟨h1, _⟩
    · simp
    · exact h.tied.filled p h1

/-- Add, whatever the key has. -/
theorem add_any (R : Rep) (key : ByteArray) (v : Ver) (w : World) (h : StoreAt w R) (t : Tied R) (hl : R.keys.length < 1000000000000) (hv : (versOf R.hist key).length < 1000000000000) :
    Calls Tryz.prog 108 #[.pointer (some ⟨R.sb, 7, none⟩), .string key, .agg #[.int .i64 v.state, .string v.value, .bool v.gone]] w fun e w' => e = .returned (.tuple #[]) ∧ AddPost R key v w w' := by
  cases hx : look R.hist key with
  | some x =>
    have hm : memB R.keys key = true := by rw [t.keys, hx]; rfl
    have hvl : versOf R.hist key = x.vers := by unfold versOf; rw [hx]; rfl
    exact add_known R key v x w h hx hm (by rw [← hvl]; exact hv)
  | none =>
    have hm : memB R.keys key = false := by rw [t.keys, hx]; rfl
    cases hvm : R.vm with
    | some b => exact add_new R key v b w h hvm hx hm t.rises hl
    | none => exact add_first R key v w h hvm hm t.rises hl

end Go.Proofs.YtgianpccgcjmjaaGreatDoor
