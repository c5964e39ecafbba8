/- throw: a key's first versions are cut off. -/
import Derived.Test.YthgojidgaeimnaaV0
namespace Go.Proofs.Ythgojidgaeimnaa
open Go.RowKit Go.Shelf

/-- What throw leaves: the key's versions without the first n. -/
def ThrowPost (R : Rep) (key : ByteArray) (n : Nat) (w w' : World) : Prop :=
  ∃ hist', StoreAt w' { R with hist := hist' } ∧ (∀ k, versOf hist' k = if k = key then (versOf R.hist key).drop n else versOf R.hist k) ∧ (∀ k, (look hist' k).isSome = true → (look R.hist k).isSome = true) ∧
    ((∀ p ∈ R.hist, p.2.vers ≠ []) → ∀ p ∈ hist', p.2.vers ≠ []) ∧ Keeps (· ∈ R.fp) w w' ∧ ∀ k ∈ Rep.fp { R with hist := hist' }, k ∈ R.fp ∨ w.heap.size ≤ k

theorem versOf_del {hist : List (ByteArray × HsR)} (hn : (hist.map (·.1)).Nodup) (key k : ByteArray) : versOf (del hist key) k = if k = key then [] else versOf hist k := by
  unfold versOf
  rw [look_del _ hn]
  by_cases e : k = key
  · subst e; simp
  · have e' : ¬ key = k := fun h => e h.symm
    simp [e, e']

theorem throw_setup {R : Rep} {key : ByteArray} {x : HsR} {w : World} (h : StoreAt w R) (hx : look R.hist key = some x) : ∃ b, R.vm = some b ∧ MapAt Value.string w b (R.hist.map fun p => (p.1, p.2.sl)) ∧ w.cell? ⟨R.sb, 6, none⟩ = some (.map (some b)) ∧ R.sb ≠ b ∧
    (∀ g, x.sl.ownBlock = some g → g ≠ R.sb ∧ g ≠ b ∧ g < w.heap.size) ∧ (∀ g, R.kv.ownBlock = some g → g ≠ b ∧ x.sl.ownBlock ≠ some g) := by
  obtain ⟨b, hvm⟩ : ∃ b, R.vm = some b := by
    cases hv : R.vm with
    | some b => exact ⟨b, rfl⟩
    | none =>
      have := h.past.histMap
      rw [hv] at this
      have e : R.hist = [] := List.map_eq_nil_iff.1 this
      rw [e] at hx
      cases hx
  have hR := h.past.histEach _ (look_mem hx)
  have hsl : slOf R.hist key = x.sl := by unfold slOf; rw [hx]; rfl
  have hn := ((fp_perm R key).nodup_iff).1 h.nodup
  rw [List.nodup_append, List.nodup_append] at hn
  have hd1 := hn.2.2
  have hd2 := hn.2.1.2.2
  rw [hsl] at hd1 hd2
  refine ⟨b, hvm, by have := h.past.histMap; rw [hvm] at this; exact this, (h.cell 6).trans (by rw [← hvm]; rfl), fun e => ?_, fun g hg => ⟨fun e => hd2 g (by simp [hg]) g (by simp [Rep.restOf, e]) rfl, fun e => hd2 g (by simp [hg]) g (by simp [Rep.restOf, hvm, e]) rfl, hR.lt hg⟩,
    fun g hg => ⟨fun e => hd1 g (by simp [hg]) g (List.mem_append_right _ (by simp [Rep.restOf, hvm, e])) rfl, fun e => hd1 g (by simp [hg]) g (List.mem_append_left _ (by simp [e])) rfl⟩⟩
  have hn2 := h.nodup
  simp only [Rep.fp, Rep.fpPast, List.nodup_cons, List.mem_append, not_or] at hn2
  exact hn2.1.2.1.2 (by simp [hvm, e])

set_option maxRecDepth 100000 in
set_option maxHeartbeats 1000000 in
/-- all of them -/
theorem throw_all (R : Rep) (key : ByteArray) (x : HsR) (w : World) (h : StoreAt w R) (hx : look R.hist key = some x) :
    Calls Try.prog 64 #[.pointer (some ⟨R.sb, 5, none⟩), .string key, .int .i64 (x.vers.length : Nat)] w fun e w' => e = .returned (.tuple #[]) ∧ ThrowPost R key x.vers.length w w' := by
  obtain ⟨b, hvm, hM, c6, hsb, hbs, hkv⟩ := throw_setup h hx
  have hR := h.past.histEach _ (look_mem hx)
  obtain ⟨av, cv, hsv, -⟩ := hR.form
  simp only at hsv
  have hlk : look (R.hist.map fun p => (p.1, p.2.sl)) key = some (.slice av x.vers.length cv) := by rw [look_map, hx]; simp [hsv]
  have HST := hid h
  have HX := hid hx
  have HVM := hid hvm
  have HM := hid hM
  have HLK := hid hlk
  have hlt := h.lt
  have hbl := hM.lt
  clear hM hlk hx h hvm hsv hR
  generalize hn : x.vers.length = n at *
  have HN := hid hn
  clear hn
  go_enter Try.func64, Try.ntmps64
  go_wp2_with (first
    | (at_lookup; go_must (refine wpList_lookup_at _ rfl _ _ 61 rfl 9 98 strKeyOk Try.underlying61 Try.underlying9 _ (Try.zeroVersions _) b rfl key rfl _ HM.out ?_; rw [HLK.out]; simp only [Option.getD_some]))
    | (at_delete; go_must (refine wpList_delete_at _ rfl _ _ 61 9 rfl 98 strKeyOk Try.underlying61 Try.underlying9 b rfl key rfl _ HM.out ?_; intro w1 hm1 hk1 hz1)))
  refine bodyPost_ret (results_none rfl _ _ _) rfl ⟨rfl, ?_⟩
  obtain ⟨f1, f2⟩ := HST.out.forgot key (kv' := R.kv) (keys' := R.keys) (b := b) hk1 (fun k _ e => .inr (.inr (by rw [HVM.out, e]))) ((hk1.block R.sb hlt hsb).trans HST.out.top)
    (HST.out.past.keysRow.kept hk1 (fun g hg e => (hkv g hg).1 e)) HVM.out hm1 rfl
  refine ⟨del R.hist key, f1, fun k => ?_, fun k hk => ?_, fun hf p hp => hf p ((del_sublist _ _).subset hp), hk1.mono (fun k _ e => ?_), fun k hk => .inl (f2.subset hk)⟩
  · rw [versOf_del (hist_nodup HST.out.past)]
    by_cases e : k = key
    · subst e
      rw [if_pos rfl, if_pos rfl]
      have hv : versOf R.hist k = x.vers := by unfold versOf; rw [HX.out]; rfl
      rw [hv, List.drop_of_length_le (by rw [HN.out]; exact Nat.le_refl _)]
    · rw [if_neg e, if_neg e]
  · rw [look_del _ (hist_nodup HST.out.past)] at hk
    by_cases e : key = k
    · rw [if_pos e] at hk; cases hk
    · rwa [if_neg e] at hk
  · have e' : k = b := e
    simp only [Rep.fp, Rep.fpPast, List.mem_cons, List.mem_append]
    exact .inr (.inr (.inl (.inr (by rw [HVM.out, e']; simp))))

theorem drop_cells (vs : List Ver) (n : Nat) : (vs.drop n).flatMap Ver.cells = (vs.flatMap Ver.cells).drop (n * 3) := by
  induction vs generalizing n with
  | nil => simp
  | cons v vs ih =>
    cases n with
    | zero => simp
    | succ n =>
      rw [List.drop_succ_cons, ih]
      have e : (n + 1) * 3 = 3 + n * 3 := by omega
      simp only [List.flatMap_cons]
      rw [e, List.drop_append]
      simp [Ver.cells]

theorem cells_one (vs : List Ver) : ∀ u ∈ vs.flatMap Ver.cells, u.oneCell' = true := by
  intro u hu
  obtain ⟨v, _, hu⟩ := List.mem_flatMap.1 hu
  simp only [Ver.cells, List.mem_cons, List.not_mem_nil, or_false] at hu
  rcases hu with rfl | rfl | rfl <;> rfl

theorem throw_grown {w w1 : World} {sb b g : Nat} {l : List (ByteArray × Value)} {u : Value} (hgb : g ≠ sb ∧ g ≠ b ∧ g < w.heap.size) (hM : MapAt Value.string w b l) (c6 : w.cell? ⟨sb, 6, none⟩ = some u) (hg : w.drew.grownBy w1 (Value.slice (some ⟨g, 0, none⟩) 0 0).ownBlock) :
    Keeps (· = g) w w1 ∧ MapAt Value.string w1 b l ∧ w1.cell? ⟨sb, 6, none⟩ = some u := by
  have hk : Keeps (· = g) w w1 := (Keeps.drew _ w).tr (Keeps.grown hg) (fun k e => by simpa [Value.ownBlock] using e)
  exact ⟨hk, hM.kept hk (fun e => hgb.2.1 e.symm), hk.cell (p := ⟨sb, 6, none⟩) c6 (fun e => hgb.1 e.symm)⟩

set_option maxRecDepth 100000 in
set_option maxHeartbeats 1000000 in
/-- some of them -/
theorem throw_some (R : Rep) (key : ByteArray) (x : HsR) (n m : Nat) (w : World) (h : StoreAt w R) (hx : look R.hist key = some x) (hn : x.vers.length = n + (m + 1)) (hl : n + (m + 1) < 1000000000000) :
    Calls Try.prog 64 #[.pointer (some ⟨R.sb, 5, none⟩), .string key, .int .i64 (n : Nat)] w fun e w' => e = .returned (.tuple #[]) ∧ ThrowPost R key n w w' := by
  obtain ⟨b, hvm, hM, c6, hsb, hbs, hkv⟩ := throw_setup h hx
  have hR := h.past.histEach _ (look_mem hx)
  simp only at hR
  obtain ⟨g, cap, hsv⟩ : ∃ g cap, x.sl = .slice (some ⟨g, 0, none⟩) (n + (m + 1)) cap := by
    rw [hn] at hR
    exact hR.succ (n := n + m)
  have hlk : look (R.hist.map fun p => (p.1, p.2.sl)) key = some (.slice (some ⟨g, 0, none⟩) (n + (m + 1)) cap) := by rw [look_map, hx]; simp [hsv]
  have hgb := hbs g (by rw [hsv]; rfl)
  rw [hsv, hn] at hR
  obtain ⟨hcap, hcm⟩ : n + (m + 1) ≤ cap ∧ cap ≤ maxLen := by
    rcases hR.shape with ⟨e, _⟩ | ⟨g', cap', e, h1, h2⟩
    · cases e
    · simp at e
      exact ⟨by rw [e.2]; exact h1, by rw [e.2]; exact h2⟩
  have hdest : Row w 78 3 (.slice (some ⟨g, 0, none⟩) 0 0) 0 [] := by
    obtain ⟨cur, hcur⟩ := hR.cellsAt (g := g) rfl
    exact ⟨rfl, .inr ⟨g, 0, cur, rfl, hcur, Nat.le_refl _, Nat.zero_le _, by simp, by simp⟩⟩
  have hnews : ∀ (W : World), W.heap[g]? = w.heap[g]? → ∀ j u, ((x.vers.drop n).flatMap Ver.cells)[j]? = some u → W.cell? ((⟨g, n * 3, none⟩ : Addr).add j) = some u := fun W hW j u hj => by
    rw [drop_cells, List.getElem?_drop] at hj
    have e : ((⟨g, n * 3, none⟩ : Addr).add j) = ⟨g, n * 3 + j, none⟩ := by unfold Addr.add; by_cases h0 : j = 0 <;> simp [h0]
    have hjl : n * 3 + j < (n + (m + 1)) * 3 := by
      have := (List.getElem?_eq_some_iff.1 hj).1
      rw [cells_length, hn] at this
      exact this
    have hc := hR.cellAt (n * 3 + j) hjl
    rw [hj] at hc
    rw [e, ← hc]
    simp only [World.cell?, hW]
  unfold maxLen at hcm
  have hcn : ¬ cap = n := by omega
  have hle : (n : Int) ≤ (n : Int) + ((m : Int) + 1) := by omega
  have hen : ((n : Int) == (n : Int) + ((m : Int) + 1)) = false := by simp; omega
  have HST := hid h
  have HX := hid hx
  have HVM := hid hvm
  have HM := hid hM
  have HLK := hid hlk
  have HN := hid hn
  have HD := hid hdest
  have HNW := hid hnews
  have HSV := hid hsv
  have hlt := h.lt
  have hbl := hM.lt
  obtain ⟨i0, hi, hz0, hz1, hz2⟩ := info_parts Try.infoVersion
  clear hM hlk hx h hvm hsv hR hn hdest hnews
  go_enter Try.func64, Try.ntmps64
  go_wp2_with (at_lookup; go_must (refine wpList_lookup_at _ rfl _ _ 61 rfl 9 98 strKeyOk Try.underlying61 Try.underlying9 _ (Try.zeroVersions _) b rfl key rfl _ HM.out ?_; rw [HLK.out]; simp only [Option.getD_some]))
  go_region_held3 (fun W => W.cell? ⟨R.sb, 6, none⟩ = some (.map (some b))) (go_keep)
    ((refine step_append_row _ (by rfl) _ _ 98 (by rfl) 78 i0 _ 3 32 Try.underlying98 hi hz0 hz1 hz2 (by rfl) (.slice (some ⟨g, 0, none⟩) 0 0) 0 [] (by rfl) (HD.out.kept (Keeps.drew (fun _ => False) w) (fun _ _ h => h)) ⟨g, n * 3, none⟩ (m + 1) (cap - n) ((x.vers.drop n).flatMap Ver.cells) (by rfl) (by rw [cells_length, List.length_drop, HN.out]; omega) (HNW.out _ rfl) (cells_one _) (by unfold maxLen; omega) (by omega) ?_; intro v' w1 hown' hgrow _ hat; rw [Nat.zero_add, List.nil_append] at hown'; obtain ⟨g', cap', rfl⟩ := hown'.succ; obtain ⟨hkw, hmw, r0⟩ := throw_grown hgb HM.out c6 hgrow; obtain ⟨ob, hrun, hM1⟩ := hmw.update (P := Try.prog) (t := 61) strKeyOk Try.underlying61 Try.underlying9 key (.slice (some ⟨g', 0, none⟩) (m + 1) cap'); have t0 := (Keeps.setBlock w1 b ob).cell (p := ⟨R.sb, 6, none⟩) r0 hsb))
  go_end0
  have hsl : slOf R.hist key = .slice (some ⟨g, 0, none⟩) (n + (m + 1)) cap := by unfold slOf; rw [HX.out]; exact HSV.out
  have hvs : versOf R.hist key = x.vers := by unfold versOf; rw [HX.out]; rfl
  have hkk : Keeps (fun k => k = g ∨ k = b) w (Go.ChangeMaps.setBlock w1 b ob) := (hkw.mono (fun _ _ h => .inl h)).tr (Keeps.setBlock w1 b ob) (fun _ h => .inr h)
  have hg' : g' = g ∨ w.heap.size ≤ g' := by
    rcases hat with h | h
    · left; simpa [Value.ownBlock] using h
    · right
      have h' : g' = w.drew.heap.size := by simpa [Value.ownBlock] using h
      have h'' : g' = w.heap.size := h'
      omega
  have hgb' : g' ≠ b := by
    rcases hg' with h | h
    · rw [h]; exact hgb.2.1
    · omega
  have c2 : ∀ k, (Value.slice (some ⟨g', 0, none⟩) (m + 1) cap').ownBlock = some k → (slOf R.hist key).ownBlock = some k ∨ w.heap.size ≤ k := fun k hk => by
    have hk' : g' = k := own_eq hk
    rw [hsl]
    rcases hg' with h | h
    · left; rw [← hk', h]; rfl
    · right; omega
  have hlen : (x.vers.drop n).length = m + 1 := by rw [List.length_drop, HN.out]; omega
  have hS := HST.out.added key (kv' := R.kv) (sl' := .slice (some ⟨g', 0, none⟩) (m + 1) cap') (keys' := R.keys) (b := b) (vs' := x.vers.drop n) hkk (fun k _ hs => by
      rcases hs with hs | hs
      · exact .inr (.inr (.inr (by rw [hsl, hs]; rfl)))
      · exact .inr (.inr (.inl (by rw [HVM.out, hs]))))
    (by
      have e : topCells { R with kv := R.kv, vm := some b } = topCells R := by simp [topCells, HVM.out]
      rw [e]
      exact (hkk.block R.sb hlt (by rintro (h | h); exact hgb.1 h.symm; exact hsb h)).trans HST.out.top)
    (HST.out.past.keysRow.kept hkk (fun k hk => by
      rintro (h | h)
      · exact (hkv k hk).2 (by rw [HSV.out, h]; rfl)
      · exact (hkv k hk).1 h)) hM1
    (by
      rw [hlen]
      exact hown'.kept (Keeps.setBlock w1 b ob) (fun k hk e => hgb' (by rw [own_eq hk]; exact e)))
    (fun k hk => .inl hk) c2 (.inl HVM.out) (by
      cases hkb : R.kv.ownBlock with
      | none => simp [Value.ownBlock, hgb']
      | some k =>
        have h1 := hkv k hkb
        have h3 := HST.out.past.keysRow.lt hkb
        have h2 : k ≠ g' := by
          rcases hg' with h | h
          · exact fun e => h1.2 (by rw [HSV.out, e, h]; rfl)
          · omega
        simp [Value.ownBlock, hgb', h1.1, h2])
  have eR : ({ R with kv := R.kv, keys := R.keys, vm := some b, hist := put R.hist key ⟨.slice (some ⟨g', 0, none⟩) (m + 1) cap', x.vers.drop n⟩ } : Rep) = { R with hist := put R.hist key ⟨.slice (some ⟨g', 0, none⟩) (m + 1) cap', x.vers.drop n⟩ } := by rw [← HVM.out]
  rw [eR] at hS
  refine ⟨rfl, _, hS, fun k => ?_, fun k hk => ?_, fun hf p hp => ?_, hkk.mono (fun k _ h => ?_), fun k hk => ?_⟩
  · rw [versOf_put, hvs]
    by_cases e : key = k
    · rw [if_pos e, if_pos e.symm]
    · rw [if_neg e, if_neg (fun h => e h.symm)]
  · rw [look_put] at hk
    by_cases e : key = k
    · rw [← e, HX.out]; rfl
    · rwa [if_neg e] at hk
  · rcases mem_put (hist_nodup HST.out.past) hp with rfl | ⟨h1, _⟩
    · intro e
      have : (x.vers.drop n).length = 0 := by
        have e' : x.vers.drop n = [] := e
        rw [e']; rfl
      omega
    · exact hf p h1
  · rw [(fp_perm R key).mem_iff, hsl]
    rcases h with h | h
    · exact List.mem_append_right _ (List.mem_append_left _ (by rw [h]; simp [Value.ownBlock]))
    · exact List.mem_append_right _ (List.mem_append_right _ (by simp [Rep.restOf, HVM.out, h]))
  · have e1 : slOf (put R.hist key ⟨.slice (some ⟨g', 0, none⟩) (m + 1) cap', x.vers.drop n⟩) key = .slice (some ⟨g', 0, none⟩) (m + 1) cap' := by unfold slOf; rw [look_put_same]; rfl
    rw [(fp_perm _ key).mem_iff] at hk
    simp only [e1] at hk
    rcases List.mem_append.1 hk with hk | hk
    · exact .inl ((fp_perm R key).mem_iff.2 (List.mem_append_left _ hk))
    · rcases List.mem_append.1 hk with hk | hk
      · have hk' : (Value.slice (some ⟨g', 0, none⟩) (m + 1) cap').ownBlock = some k := by simpa using hk
        rcases c2 k hk' with h | h
        · exact .inl ((fp_perm R key).mem_iff.2 (List.mem_append_right _ (List.mem_append_left _ (by simp [h]))))
        · exact .inr h
      · have e2 : Rep.restOf { R with hist := put R.hist key ⟨.slice (some ⟨g', 0, none⟩) (m + 1) cap', x.vers.drop n⟩ } key = R.restOf key := by simp only [Rep.restOf, Rep.fpWorks, del_put]
        rw [e2] at hk
        exact .inl ((fp_perm R key).mem_iff.2 (List.mem_append_right _ (List.mem_append_right _ hk)))

end Go.Proofs.Ythgojidgaeimnaa
