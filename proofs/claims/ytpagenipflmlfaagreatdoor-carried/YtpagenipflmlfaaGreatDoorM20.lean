import Derived.Test.YtpagenipflmlfaaGreatDoorM19

/- throw: a key's first versions are cut off. -/

namespace Go.Proofs.YtpagenipflmlfaaGreatDoor

open Go.RowKit Go.Shelf

/-- What throw leaves: the key's versions without the first n. -/
def ThrowPost (R : Rep) (key : ByteArray) (n : Nat) (w w' : World) : Prop :=
  ∃ hist', StoreAt w' { R with hist := hist' } ∧ (∀ k, versOf hist' k = if k = key then (versOf R.hist key).drop n else versOf R.hist k) ∧ (∀ k, (look hist' k).isSome = true → (look R.hist k).isSome = true) ∧
    ((∀ p ∈ R.hist, p.2.vers ≠ []) → ∀ p ∈ hist', p.2.vers ≠ []) ∧ Keeps (· ∈ R.fp) w w' ∧ ∀ k ∈ Rep.fp { R with hist := hist' }, k ∈ R.fp ∨ w.heap.size ≤ k

theorem versOf_del {hist : List (ByteArray × HsR)} (hn : (hist.map (·.1)).Nodup) (key k : ByteArray) : versOf (del hist key) k = if k = key then [] else versOf hist k := by
  unfold versOf
  rw [look_del _ hn]
  by_cases e : k = key
  · subst e; simp
  · have e' : ¬ key = k := fun h => e h.symm
    simp [e, e']

theorem throw_setup {R : Rep} {key : ByteArray} {x : HsR} {w : World} (h : StoreAt w R) (hx : look R.hist key = some x) : ∃ b, R.vm = some b ∧ MapAt Value.string w b (R.hist.map fun p => (p.1, p.2.sl)) ∧ w.cell? ⟨R.sb, 8, none⟩ = some (.map (some b)) ∧ R.sb ≠ b ∧
    (∀ g, x.sl.ownBlock = some g → g ≠ R.sb ∧ g ≠ b ∧ g < w.heap.size) ∧ (∀ g, R.kv.ownBlock = some g → g ≠ b ∧ x.sl.ownBlock ≠ some g) := by
  obtain ⟨b, hvm⟩ : ∃ b, R.vm = some b := by
    cases hv : R.vm with
    | some b => exact ⟨b, rfl⟩
    | none =>
      have := h.past.histMap
      rw [hv] at this
      have e : R.hist = [] := List.map_eq_nil_iff.1 this
      rw [e] at hx
      cases hx
  have hR := h.past.histEach _ (look_mem hx)
  have hsl : slOf R.hist key = x.sl := by unfold slOf; rw [hx]; rfl
  have hn := ((fp_perm R key).nodup_iff).1 h.nodup
  rw [List.nodup_append, List.nodup_append] at hn
  have hd1 := hn.2.2
  have hd2 := hn.2.1.2.2
  rw [hsl] at hd1 hd2
  refine ⟨b, hvm, by have := h.past.histMap; rw [hvm] at this; exact this, (h.cell 8).trans (by rw [← hvm]; rfl), fun e => ?_, fun g hg => ⟨fun e => hd2 g (by simp [hg]) g (by simp [Rep.restOf, e]) rfl, fun e => hd2 g (by simp [hg]) g (by simp [Rep.restOf, hvm, e]) rfl, hR.lt hg⟩,
    fun g hg => ⟨fun e => hd1 g (by simp [hg]) g (List.mem_append_right _ (by simp [Rep.restOf, hvm, e])) rfl, fun e => hd1 g (by simp [hg]) g (List.mem_append_left _ (by simp [e])) rfl⟩⟩
  have hn2 := h.nodup
  simp only [Rep.fp, Rep.fpPast, List.nodup_cons, List.mem_append, not_or] at hn2
  exact hn2.1.2.1.2 (by simp [hvm, e])

set_option maxRecDepth 100000 in
set_option maxHeartbeats 1000000 in
/-- all of them -/
theorem throw_all (R : Rep) (key : ByteArray) (x : HsR) (w : World) (h : StoreAt w R) (hx : look R.hist key = some x) :
    Calls Tryz.prog 104 #[.pointer (some ⟨R.sb, 7, none⟩), .string key, .int .i64 (x.vers.length : Nat)] w fun e w' => e = .returned (.tuple #[]) ∧ ThrowPost R key x.vers.length w w' := by
  obtain ⟨b, hvm, hM, c6, hsb, hbs, hkv⟩ := throw_setup h hx
  have hR := h.past.histEach _ (look_mem hx)
  obtain ⟨av, cv, hsv, -⟩ := hR.form
  simp only at hsv
  have hlk : look (R.hist.map fun p => (p.1, p.2.sl)) key = some (.slice av x.vers.length cv) := by rw [look_map, hx]; simp [hsv]
  have HST := hid h
  have HX := hid hx
  have HVM := hid hvm
  have HM := hid hM
  have HLK := hid hlk
  have hlt := h.lt
  have hbl := hM.lt
  clear hM hlk hx h hvm hsv hR
  generalize hn : x.vers.length = n at *
  have HN := hid hn
  clear hn
  go_enter Tryz.func104, Tryz.ntmps104
  go_wp2_with (first
    | (at_lookup; go_must (refine wpList_lookup_at _ rfl _ _ 61 rfl 9 114 strKeyOk Tryz.underlying61 Tryz.underlying9 _ (Tryz.zeroVersions _) b rfl key rfl _ HM.out ?_; rw [HLK.out]; simp only [Option.getD_some]))
    | (at_delete; go_must (refine wpList_delete_at _ rfl _ _ 61 9 rfl 114 strKeyOk Tryz.underlying61 Tryz.underlying9 b rfl key rfl _ HM.out ?_; intro w1 hm1 hk1 hz1)))
  refine bodyPost_ret (results_none rfl _ _ _) rfl ⟨rfl, ?_⟩
  obtain ⟨f1, f2⟩ := HST.out.forgot key (kv' := R.kv) (keys' := R.keys) (b := b) hk1 (fun k _ e => .inr (.inr (by rw [HVM.out, e]))) ((hk1.block R.sb hlt hsb).trans HST.out.top)
    (HST.out.past.keysRow.kept hk1 (fun g hg e => (hkv g hg).1 e)) HVM.out hm1 rfl
  refine ⟨del R.hist key, f1, fun k => ?_, fun k hk => ?_, fun hf p hp => hf p ((del_sublist _ _).subset hp), hk1.mono (fun k _ e => ?_), fun k hk => .inl (f2.subset hk)⟩
  · rw [versOf_del (hist_nodup HST.out.past)]
    by_cases e : k = key
    · subst e
      rw [if_pos rfl, if_pos rfl]
      have hv : versOf R.hist k = x.vers := by unfold versOf; rw [HX.out]; rfl
      rw [hv, List.drop_of_length_le (by rw [HN.out]; exact Nat.le_refl _)]
    · rw [if_neg e, if_neg e]
  · rw [look_del _ (hist_nodup HST.out.past)] at hk
    by_cases e : key = k
    · rw [if_pos e] at hk; cases hk
    · rwa [if_neg e] at hk
  · have e' : k = b := e
    simp only [Rep.fp, Rep.fpPast, List.mem_cons, List.mem_append]
    exact .inr (.inr (.inl (.inr (by rw [HVM.out, e']; simp))))

theorem drop_cells (vs : List Ver) (n : Nat) : (vs.drop n).flatMap Ver.cells = (vs.flatMap Ver.cells).drop (n * 3) := by
  induction vs generalizing n with
  | nil => simp
  | cons v vs ih =>
    cases n with
    | zero => simp
    | succ n =>
      rw [List.drop_succ_cons, ih]
      have e : (n + 1) * 3 = 3 + n * 3 := by omega
      simp only [List.flatMap_cons]
      rw [e, List.drop_append]
      simp [Ver.cells]

theorem cells_one (vs : List Ver) : ∀ u ∈ vs.flatMap Ver.cells, u.oneCell' = true := by
  intro u hu
  obtain ⟨v, _, hu⟩ := List.mem_flatMap.1 hu
  simp only [Ver.cells, List.mem_cons, List.not_mem_nil, or_false] at hu
  rcases hu with rfl | rfl | rfl <;> rfl

theorem throw_grown {w w1 : World} {sb b g : Nat} {l : List (ByteArray × Value)} {u : Value} (hgb : g ≠ sb ∧ g ≠ b ∧ g < w.heap.size) (hM : MapAt Value.string w b l) (c6 : w.cell? ⟨sb, 8, none⟩ = some u) (hg : w.drew.grownBy w1 (Value.slice (some ⟨g, 0, none⟩) 0 0).ownBlock) :
    Keeps (· = g) w w1 ∧ MapAt Value.string w1 b l ∧ w1.cell? ⟨sb, 8, none⟩ = some u := by
  have hk : Keeps (· = g) w w1 := (Keeps.drew _ w).tr (Keeps.grown hg) (fun k e => by simpa [Value.ownBlock] using e)
  exact ⟨hk, hM.kept hk (fun e => hgb.2.1 e.symm), hk.cell (p := ⟨sb, 8, none⟩) c6 (fun e => hgb.1 e.symm)⟩

set_option maxRecDepth 100000 in
set_option maxHeartbeats 1000000 in
/-- some of them -/
theorem throw_some (R : Rep) (key : ByteArray) (x : HsR) (n m : Nat) (w : World) (h : StoreAt w R) (hx : look R.hist key = some x) (hn : x.vers.length = n + (m + 1)) (hl : n + (m + 1) < 1000000000000) :
    Calls Tryz.prog 104 #[.pointer (some ⟨R.sb, 7, none⟩), .string key, .int .i64 (n : Nat)] w fun e w' => e = .returned (.tuple #[]) ∧ ThrowPost R key n w w' := by
  obtain ⟨b, hvm, hM, c6, hsb, hbs, hkv⟩ := throw_setup h hx
  have hR := h.past.histEach _ (look_mem hx)
  simp only at hR
  obtain ⟨g, cap, hsv⟩ : ∃ g cap, x.sl = .slice (some ⟨g, 0, none⟩) (n + (m + 1)) cap := by
    rw [hn] at hR
    exact hR.succ (n := n + m)
  have hlk : look (R.hist.map fun p => (p.1, p.2.sl)) key = some (.slice (some ⟨g, 0, none⟩) (n + (m + 1)) cap) := by rw [look_map, hx]; simp [hsv]
  have hgb := hbs g (by rw [hsv]; rfl)
  rw [hsv, hn] at hR
  obtain ⟨hcap, hcm⟩ : n + (m + 1) ≤ cap ∧ cap ≤ maxLen := by
    rcases hR.shape with ⟨e, _⟩ | ⟨g', cap', e, h1, h2⟩
    · cases e
    · simp at e
      exact ⟨by rw [e.2]; exact h1, by rw [e.2]; exact h2⟩
  have hdest : Row w 107 3 (.slice (some ⟨g, 0, none⟩) 0 0) 0 [] := by
    obtain ⟨cur, hcur⟩ := hR.cellsAt (g := g) rfl
    exact ⟨rfl, .inr ⟨g, 0, cur, rfl, hcur, Nat.le_refl _, Nat.zero_le _, by simp, by simp⟩⟩
  have hnews : ∀ (W : World), W.heap[g]? = w.heap[g]? → ∀ j u, ((x.vers.drop n).flatMap Ver.cells)[j]? = some u → W.cell? ((⟨g, n * 3, none⟩ : Addr).add j) = some u := fun W hW j u hj => by
    rw [drop_cells, List.getElem?_drop] at hj
    have e : ((⟨g, n * 3, none⟩ : Addr).add j) = ⟨g, n * 3 + j, none⟩ := by unfold Addr.add; by_cases h0 : j = 0 <;> simp [h0]
    have hjl : n * 3 + j < (n + (m + 1)) * 3 := by
      have := (List.getElem?_eq_some_iff.1 hj).1
      rw [cells_length, hn] at this
      exact this
    have hc := hR.cellAt (n * 3 + j) hjl
    rw [hj] at hc
    rw [e, ← hc]
    simp only [World.cell?, hW]
  unfold maxLen at hcm
  have hcn : ¬ cap = n := by omega
  have hle : (n : Int) ≤ (n : Int) + ((m : Int) + 1) := by omega
  have hen : ((n : Int) == (n : Int) + ((m : Int) + 1)) = false := by simp; omega
  have HST := hid h
  have HX := hid hx
  have HVM := hid hvm
  have HM := hid hM
  have HLK := hid hlk
  have HN := hid hn
  have HD := hid hdest
  have HNW := hid hnews
  have HSV := hid hsv
  have hlt := h.lt
  have hbl := hM.lt
  obtain ⟨i0, hi, hz0, hz1, hz2⟩ := info_parts Tryz.infoVersion
  clear hM hlk hx h hvm hsv hR hn hdest hnews
  go_enter Tryz.func104, Tryz.ntmps104
  go_wp2_with (at_lookup; go_must (refine wpList_lookup_at _ rfl _ _ 61 rfl 9 114 strKeyOk Tryz.underlying61 Tryz.underlying9 _ (Tryz.zeroVersions _) b rfl key rfl _ HM.out ?_; rw [HLK.out]; simp only [Option.getD_some]))
  go_region_held3 (fun W => W.cell? ⟨R.sb, 8, none⟩ = some (.map (some b))) (go_keep)
    ((refine step_append_row _ (by rfl) _ _ 114 (by rfl) 107 i0 _ 3 32 Tryz.underlying114 hi hz0 hz1 hz2 (by rfl) (.slice (some ⟨g, 0, none⟩) 0 0) 0 [] (by rfl) (HD.out.kept (Keeps.drew (fun _ => False) w) (fun _ _ h => h)) ⟨g, n * 3, none⟩ (m + 1) (cap - n) ((x.vers.drop n).flatMap Ver.cells) (by rfl) (by rw [cells_length, List.length_drop, HN.out]; omega) (HNW.out _ rfl) (cells_one _) (by unfold maxLen; omega) (by omega) ?_; intro v' w1 hown' hgrow _ hat; rw [Nat.zero_add, List.nil_append] at hown'; obtain ⟨g', cap', rfl⟩ := hown'.succ; obtain ⟨hkw, hmw, r0⟩ := throw_grown hgb HM.out c6 hgrow; obtain ⟨ob, hrun, hM1⟩ := hmw.update (P := Tryz.prog) (t := 61) strKeyOk Tryz.underlying61 Tryz.underlying9 key (.slice (some ⟨g', 0, none⟩) (m + 1) cap'); have t0 := (Keeps.setBlock w1 b ob).cell (p := ⟨R.sb, 8, none⟩) r0 hsb))
  go_end0
  have hsl : slOf R.hist key = .slice (some ⟨g, 0, none⟩) (n + (m + 1)) cap := by unfold slOf; rw [HX.out]; exact HSV.out
  have hvs : versOf R.hist key = x.vers := by unfold versOf; rw [HX.out]; rfl
  have hkk : Keeps (fun k => k = g ∨ k = b) w (Go.ChangeMaps.setBlock w1 b ob) := (hkw.mono (fun _ _ h => .inl h)).tr (Keeps.setBlock w1 b ob) (fun _ h => .inr h)
  have hg' : g' = g ∨ w.heap.size ≤ g' := by
    rcases hat with h | h
    · left; simpa [Value.ownBlock] using h
    · right
      have h' : g' = w.drew.heap.size := by simpa [Value.ownBlock] using h
      have h'' : g' = w.heap.size := h'
      omega
  have hgb' : g' ≠ b := by
    rcases hg' with h | h
    · rw [h]; exact hgb.2.1
    · omega
  have c2 : ∀ k, (Value.slice (some ⟨g', 0, none⟩) (m + 1) cap').ownBlock = some k → (slOf R.hist key).ownBlock = some k ∨ w.heap.size ≤ k := fun k hk => by
    have hk' : g' = k := own_eq hk
    rw [hsl]
    rcases hg' with h | h
    · left; rw [← hk', h]; rfl
    · right; omega
  have hlen : (x.vers.drop n).length = m + 1 := by rw [List.length_drop, HN.out]; omega
  have hS := HST.out.added key (kv' := R.kv) (sl' := .slice (some ⟨g', 0, none⟩) (m + 1) cap') (keys' := R.keys) (b := b) (vs' := x.vers.drop n) hkk (fun k _ hs => by
      rcases hs with hs | hs
      · exact .inr (.inr (.inr (by rw [hsl, hs]; rfl)))
      · exact .inr (.inr (.inl (by rw [HVM.out, hs]))))
    (by
      have e : topCells { R with kv := R.kv, vm := some b } = topCells R := by simp [topCells, HVM.out]
      rw [e]
      exact (hkk.block R.sb hlt (by rintro (h | h); exact hgb.1 h.symm; exact hsb h)).trans HST.out.top)
    (HST.out.past.keysRow.kept hkk (fun k hk => by
      rintro (h | h)
      · exact (hkv k hk).2 (by rw [HSV.out, h]; rfl)
      · exact (hkv k hk).1 h)) hM1
    (by
      rw [hlen]
      exact hown'.kept (Keeps.setBlock w1 b ob) (fun k hk e => hgb' (by rw [own_eq hk]; exact e)))
    (fun k hk => .inl hk) c2 (.inl HVM.out) (by
      cases hkb : R.kv.ownBlock with
      | none => simp [Value.ownBlock, hgb']
      | some k =>
        have h1 := hkv k hkb
        have h3 := HST.out.past.keysRow.lt hkb
        have h2 : k ≠ g' := by
          rcases hg' with h | h
          · exact fun e => h1.2 (by rw [HSV.out, e, h]; rfl)
          · omega
        simp [Value.ownBlock, hgb', h1.1, h2])
  have eR : ({ R with kv := R.kv, keys := R.keys, vm := some b, hist := put R.hist key ⟨.slice (some ⟨g', 0, none⟩) (m + 1) cap', x.vers.drop n⟩ } : Rep) = { R with hist := put R.hist key ⟨.slice (some ⟨g', 0, none⟩) (m + 1) cap', x.vers.drop n⟩ } := by rw [← HVM.out]
  rw [eR] at hS
  refine ⟨rfl, _, hS, fun k => ?_, fun k hk => ?_, fun hf p hp => ?_, hkk.mono (fun k _ h => ?_), fun k hk => ?_⟩
  · rw [versOf_put, hvs]
    by_cases e : key = k
    · rw [if_pos e, if_pos e.symm]
    · rw [if_neg e, if_neg (fun h => e h.symm)]
  · rw [look_put] at hk
    by_cases e : key = k
    · rw [← e, HX.out]; rfl
    · rwa [if_neg e] at hk
  · rcases mem_put (hist_nodup HST.out.past) hp with rfl | ⟨h1, _⟩
    · intro e
      have : (x.vers.drop n).length = 0 := by
        have e' : x.vers.drop n = [] := e
        rw [e']; rfl
      omega
    · exact hf p h1
  · rw [(fp_perm R key).mem_iff, hsl]
    rcases h with h | h
    · exact List.mem_append_right _ (List.mem_append_left _ (by rw [h]; simp [Value.ownBlock]))
    · exact List.mem_append_right _ (List.mem_append_right _ (by simp [Rep.restOf, HVM.out, h]))
  · have e1 : slOf (put R.hist key ⟨.slice (some ⟨g', 0, none⟩) (m + 1) cap', x.vers.drop n⟩) key = .slice (some ⟨g', 0, none⟩) (m + 1) cap' := by unfold slOf; rw [look_put_same]; rfl
    rw [(fp_perm _ key).mem_iff] at hk
    simp only [e1] at hk
    rcases List.mem_append.1 hk with hk | hk
    · exact .inl ((fp_perm R key).mem_iff.2 (List.mem_append_left _ hk))
    · rcases List.mem_append.1 hk with hk | hk
      · have hk' : (Value.slice (some ⟨g', 0, none⟩) (m + 1) cap').ownBlock = some k := by simpa using hk
        rcases c2 k hk' with h | h
        · exact .inl ((fp_perm R key).mem_iff.2 (List.mem_append_right _ (List.mem_append_left _ (by simp [h]))))
        · exact .inr h
      · have e2 : Rep.restOf { R with hist := put R.hist key ⟨.slice (some ⟨g', 0, none⟩) (m + 1) cap', x.vers.drop n⟩ } key = R.restOf key := by simp only [Rep.restOf, Rep.fpWorks, del_put]
        rw [e2] at hk
        exact .inl ((fp_perm R key).mem_iff.2 (List.mem_append_right _ (List.mem_append_right _ hk)))

end Go.Proofs.YtpagenipflmlfaaGreatDoor

/- What Sweep of what has been keeps between its rounds. -/

namespace Go.Proofs.YtpagenipflmlfaaGreatDoor

open Go.RowKit Go.Shelf

/-- is anything left of a key's versions? -/
def staysB (R : Rep) (L : Int) (k : ByteArray) : Bool := decide (needN (versOf R.hist k) L < (versOf R.hist k).length)

/-- the keys of which something is left, among the first i -/
def leftL (R : Rep) (L : Int) (i : Nat) : List ByteArray := (R.keys.take i).filter (staysB R L)

theorem leftL_succ {R : Rep} {L : Int} {i : Nat} (hi : i < R.keys.length) : leftL R L (i + 1) = leftL R L i ++ (if staysB R L R.keys[i] = true then [R.keys[i]] else []) := by
  unfold leftL
  rw [List.take_succ_eq_append_getElem hi, List.filter_append]
  congr 1
  cases h : staysB R L R.keys[i] <;> simp [h]

structure SweepS (w : World) (R : Rep) (L : Int) (cb nf : Nat) (C0 : List Nat) (pB i j : Nat) (hist : List (ByteArray × HsR)) (fs : List Value) (C : List Nat) (vl : Value) (wr : World) : Prop where
  st : StoreAt wr { R with hist := hist }
  vers : ∀ k, versOf hist k = if memB (R.keys.take i) k then (versOf R.hist k).drop (needN (versOf R.hist k) L) else versOf R.hist k
  some_ : ∀ k, (look hist k).isSome = true → (look R.hist k).isSome = true
  filled : ∀ p ∈ hist, p.2.vers ≠ []
  row : Row wr 9 1 vl (leftL R L j).length ((leftL R L j).map Value.string)
  own : ∀ g, vl.ownBlock = some g → w.heap.size < g ∧ g ∉ C ∧ g ∉ Rep.fp { R with hist := hist }
  chg : Chg wr cb fs C
  len : fs.length ≤ nf + i
  cfr : ∀ k ∈ C, k ∈ C0 ∨ w.heap.size < k
  ffr : ∀ k ∈ Rep.fp { R with hist := hist }, k ∈ R.fp ∨ w.heap.size < k
  apart : ∀ k ∈ C, k ∉ Rep.fp { R with hist := hist }
  box : wr.heap[pB]? = some (.cells #[.pointer (some ⟨R.sb, 7, none⟩)] 113 (0, 0))
  keep : Keeps (fun k => k ∈ R.fp ∨ k ∈ C0) w wr
  size : w.heap.size < wr.heap.size

theorem SweepS.kept {w : World} {R : Rep} {L : Int} {cb nf : Nat} {C0 : List Nat} {pB i j : Nat} {hist : List (ByteArray × HsR)} {fs : List Value} {C : List Nat} {vl : Value} {wr wr' : World} (h : SweepS w R L cb nf C0 pB i j hist fs C vl wr) (hk : Keeps (fun _ => False) wr wr') : SweepS w R L cb nf C0 pB i j hist fs C vl wr' :=
  ⟨h.st.kept hk (fun _ _ h => h), h.vers, h.some_, h.filled, h.row.kept hk (fun _ _ h => h), h.own, h.chg.kept hk (fun _ _ h => h), h.len, h.cfr, h.ffr, h.apart, (hk.block pB (Array.getElem?_eq_some_iff.1 h.box).1 (fun h => h)).trans h.box, h.keep.tr hk (fun _ h => h.elim), Nat.lt_of_lt_of_le h.size hk.size⟩

/-- nothing is thrown away -/
theorem SweepS.stay {w : World} {R : Rep} {L : Int} {cb nf : Nat} {C0 : List Nat} {pB i j : Nat} {hist : List (ByteArray × HsR)} {fs : List Value} {C : List Nat} {vl : Value} {wr : World} (h : SweepS w R L cb nf C0 pB i j hist fs C vl wr) (hi : i < R.keys.length) (hn : needN (versOf R.hist R.keys[i]) L = 0) : SweepS w R L cb nf C0 pB (i + 1) j hist fs C vl wr := by
  refine ⟨h.st, fun k => ?_, h.some_, h.filled, h.row, h.own, h.chg, Nat.le_trans h.len (by omega), h.cfr, h.ffr, h.apart, h.box, h.keep, h.size⟩
  rw [h.vers k, List.take_succ_eq_append_getElem hi, memB_snoc]
  by_cases e : R.keys[i] = k
  · subst e
    simp only [decide_true, Bool.or_true, if_true, hn, List.drop_zero]
    split <;> rfl
  · simp [e]

/-- a key of which nothing is left is not noted -/
theorem SweepS.skip {w : World} {R : Rep} {L : Int} {cb nf : Nat} {C0 : List Nat} {pB i : Nat} {hist : List (ByteArray × HsR)} {fs : List Value} {C : List Nat} {vl : Value} {wr : World} {j : Nat} (h : SweepS w R L cb nf C0 pB i j hist fs C vl wr) (hj : j < R.keys.length) (hn : staysB R L R.keys[j] = false) : SweepS w R L cb nf C0 pB i (j + 1) hist fs C vl wr := by
  have e : leftL R L (j + 1) = leftL R L j := by rw [leftL_succ hj, hn]; simp
  exact ⟨h.st, h.vers, h.some_, h.filled, by rw [e]; exact h.row, h.own, h.chg, h.len, h.cfr, h.ffr, h.apart, h.box, h.keep, h.size⟩

/-- one that stays is -/
theorem SweepS.note {w : World} {R : Rep} {L : Int} {cb nf : Nat} {C0 : List Nat} {pB i : Nat} {hist : List (ByteArray × HsR)} {fs : List Value} {C : List Nat} {vl vl' : Value} {wr w1 : World} {o : Obj} {j : Nat} (h : SweepS w R L cb nf C0 pB i j hist fs C vl wr) (hj : j < R.keys.length) (hn : staysB R L R.keys[j] = true) (hpB : pB = w.heap.size)
    (hr : Row w1 9 1 vl' ((leftL R L j).length + 1) ((leftL R L j).map Value.string ++ [.string R.keys[j]])) (hg : (wr.alloc o).grownBy w1 vl.ownBlock) (ho : vl'.ownBlock = vl.ownBlock ∨ vl'.ownBlock = some (wr.alloc o).heap.size) : SweepS w R L cb nf C0 pB i (j + 1) hist fs C vl' w1 := by
  have e : leftL R L (j + 1) = leftL R L j ++ [R.keys[j]] := by rw [leftL_succ hj, hn]; simp
  have hk : Keeps (fun k => some k = vl.ownBlock) wr w1 := ((Keeps.refl _ wr).al o).tr (Keeps.grown hg) (fun _ h => h)
  have hfl := fp_lt h.st
  have hcl := h.chg.lt
  have hsz := h.size
  have hzw : wr.heap.size + 1 ≤ w1.heap.size := by have := hg.size; simpa using this
  refine ⟨h.st.kept hk (fun k hk' e => (h.own k e.symm).2.2 hk'), h.vers, h.some_, h.filled, by rw [e]; simpa using hr, fun g hgv => ?_, h.chg.kept hk (fun k hkC e => (h.own k e.symm).2.1 hkC), h.len, h.cfr, h.ffr, h.apart, ?_, h.keep.trans hk (fun k hk' e => ?_), by omega⟩
  · rcases ho with e1 | e1
    · exact h.own g (by rw [← e1]; exact hgv)
    · rw [hgv] at e1
      simp at e1
      exact ⟨by omega, fun hc => by have := hcl g hc; omega, fun hf => by have := hfl g hf; omega⟩
  · refine (hk.block pB (Array.getElem?_eq_some_iff.1 h.box).1 (fun e => ?_)).trans h.box
    have := (h.own pB e.symm).1
    omega
  · have := (h.own k e.symm).1
    omega

/-- a key's first versions go -/
theorem SweepS.thrown {w : World} {R : Rep} {L : Int} {cb nf : Nat} {C0 : List Nat} {pB i j : Nat} {hist : List (ByteArray × HsR)} {fs fs' : List Value} {C C' : List Nat} {vl : Value} {wr w1 w2 : World} (h : SweepS w R L cb nf C0 pB i j hist fs C vl wr) (hr : Rises R.keys) (hi : i < R.keys.length) (hpB : pB = w.heap.size) (hC0 : ∀ k ∈ C0, k < w.heap.size) (hRf : ∀ k ∈ R.fp, k < w.heap.size)
    (hc : Chg w1 cb fs' C') (hl : fs'.length ≤ fs.length + 1) (hk1 : Keeps (· ∈ C) wr w1) (hC' : ∀ k ∈ C', k ∈ C ∨ wr.heap.size ≤ k) (ht : ThrowPost { R with hist := hist } R.keys[i] (needN (versOf R.hist R.keys[i]) L) w1 w2) :
    ∃ hist', SweepS w R L cb nf C0 pB (i + 1) j hist' fs' C' vl w2 := by
  obtain ⟨hist', t1, t2, t3, t4, t5, t6⟩ := ht
  have hsz := h.size
  have hz1 := hk1.size
  have hfl := fp_lt h.st
  have hcl := h.chg.lt
  have hni : memB (R.keys.take i) R.keys[i] = false := by
    cases hm : memB (R.keys.take i) R.keys[i] with
    | false => rfl
    | true =>
      have hm' := (memB_iff _ _).1 hm
      obtain ⟨q, hq, e⟩ := List.getElem_of_mem hm'
      simp only [List.length_take] at hq
      rw [List.getElem_take] at e
      have := (List.getElem_inj (rises_nodup hr)).1 e
      omega
  have hvi : versOf hist R.keys[i] = versOf R.hist R.keys[i] := by rw [h.vers, hni]; simp
  have hsb : ∀ k ∈ Rep.fp { R with hist := hist' }, k ∈ Rep.fp { R with hist := hist } ∨ w1.heap.size ≤ k := t6
  refine ⟨hist', t1, fun k => ?_, fun k hk => h.some_ k (t3 k hk), t4 h.filled, ?_, fun g hg => ?_, hc.kept t5 (fun k hk hf => ?_), ?_, fun k hk => ?_, fun k hk => ?_, fun k hk hf => ?_, ?_, ?_, ?_⟩
  · rw [t2 k, List.take_succ_eq_append_getElem hi, memB_snoc]
    by_cases e : k = R.keys[i]
    · subst e
      simp only [if_true, decide_true, Bool.or_true]
      have e2 : versOf ({ R with hist := hist } : Rep).hist R.keys[i] = versOf R.hist R.keys[i] := hvi
      rw [e2]
    · have e' : ¬ R.keys[i] = k := fun h => e h.symm
      rw [if_neg e]
      have e2 : versOf ({ R with hist := hist } : Rep).hist k = versOf hist k := rfl
      rw [e2, h.vers k]
      simp [e']
  · exact (h.row.kept hk1 (fun g hg hgC => (h.own g hg).2.1 hgC)).kept t5 (fun g hg hf => (h.own g hg).2.2 hf)
  · obtain ⟨o1, o2, o3⟩ := h.own g hg
    have hgl := h.row.lt hg
    refine ⟨o1, fun hc' => ?_, fun hf => ?_⟩
    · rcases hC' g hc' with h1 | h1
      · exact o2 h1
      · omega
    · rcases hsb g hf with h1 | h1
      · exact o3 h1
      · omega
  · rcases hC' k hk with h1 | h1
    · exact h.apart k h1 hf
    · have := hfl k hf
      omega
  · have := h.len
    omega
  · rcases hC' k hk with h1 | h1
    · exact h.cfr k h1
    · right; omega
  · rcases hsb k hk with h1 | h1
    · exact h.ffr k h1
    · right; omega
  · rcases hC' k hk with h1 | h1
    · rcases hsb k hf with h2 | h2
      · exact h.apart k h1 h2
      · have := hcl k h1; omega
    · rcases hsb k hf with h2 | h2
      · have := hfl k h2; omega
      · have := hc.lt k hk; omega
  · have b1 : w1.heap[pB]? = some (.cells #[.pointer (some ⟨R.sb, 7, none⟩)] 113 (0, 0)) := (hk1.block pB (Array.getElem?_eq_some_iff.1 h.box).1 (fun hc' => by
      rcases h.cfr pB hc' with h1 | h1
      · have := hC0 pB h1; omega
      · omega)).trans h.box
    refine (t5.block pB (Array.getElem?_eq_some_iff.1 b1).1 (fun hf => ?_)).trans b1
    rcases h.ffr pB hf with h1 | h1
    · have := hRf pB h1; omega
    · omega
  · refine (h.keep.trans hk1 (fun k hk hc' => ?_)).trans t5 (fun k hk hf => ?_)
    · rcases h.cfr k hc' with h1 | h1
      · exact .inr h1
      · omega
    · rcases h.ffr k hf with h1 | h1
      · exact .inl h1
      · omega
  · have := t5.size
    omega

theorem needN_le (vs : List Ver) (t : Int) : needN vs t ≤ vs.length := by
  have h := upN_le vs t
  unfold needN
  split
  · split <;> omega
  · omega

/-- The list of keys is another one. -/
theorem StoreAt.newKeys {w : World} {R : Rep} {vl : Value} {ks : List ByteArray} (h : StoreAt w R) (hr : Row w 9 1 vl ks.length (ks.map Value.string)) (hown : ∀ g, vl.ownBlock = some g → g ∉ R.fp) :
    StoreAt (w.setCell ⟨R.sb, 7, none⟩ vl) { R with kv := vl, keys := ks } ∧ ∀ k ∈ Rep.fp { R with kv := vl, keys := ks }, k ∈ R.fp ∨ vl.ownBlock = some k := by
  have hk : Keeps (· = R.sb) w (w.setCell ⟨R.sb, 7, none⟩ vl) := Keeps.setCell w ⟨R.sb, 7, none⟩ vl
  have hnd := h.nodup
  simp only [Rep.fp, List.nodup_cons, List.mem_append, not_or] at hnd
  have hmem : ∀ k ∈ Rep.fp { R with kv := vl, keys := ks }, k ∈ R.fp ∨ vl.ownBlock = some k := fun k hk' => by
    simp only [Rep.fp, Rep.fpWorks, Rep.fpPast, List.mem_cons, List.mem_append, Option.mem_toList] at hk' ⊢
    rcases hk' with h1 | h1 | (h1 | h1) | h1
    · exact .inl (.inl h1)
    · exact .inl (.inr (.inl h1))
    · exact .inr h1
    · exact .inl (.inr (.inr (.inl (.inr h1))))
    · exact .inl (.inr (.inr (.inr h1)))
  have hsbo : vl.ownBlock ≠ some R.sb := fun e => hown R.sb e (by simp [Rep.fp])
  refine ⟨⟨?_, ?_, ⟨?_, ?_, ?_⟩, ?_⟩, hmem⟩
  · show (w.setCell ⟨R.sb, 7, none⟩ vl).heap[R.sb]? = _
    rw [heap_setCell_same h.top]
    simp [topCells]
  · have hw := h.works.kept hk (fun k hk' e => hnd.1.1 (by rw [← e]; exact hk'))
    exact ⟨hw.worksMap, hw.worksEach, hw.pinsMap, hw.copyMap⟩
  · exact hr.kept hk (fun g hg e => hsbo (by rw [hg, e]))
  · exact h.past.histMap.kept hk (fun b hb e => hnd.1.2 (by rw [← e]; simp [Rep.fpPast, hb]))
  · intro p hp
    refine (h.past.histEach p hp).kept hk (fun g hg e => hnd.1.2 ?_)
    rw [← e]
    simp only [Rep.fpPast, List.mem_append, List.mem_flatMap]
    exact .inr ⟨p, hp, by simp [hg]⟩
  · have hsub : (Rep.fpPast { R with kv := vl, keys := ks }) = vl.ownBlock.toList ++ (R.vm.toList ++ R.hist.flatMap (fun p => p.2.sl.ownBlock.toList)) := by simp [Rep.fpPast]
    have hold : R.fpPast = R.kv.ownBlock.toList ++ (R.vm.toList ++ R.hist.flatMap (fun p => p.2.sl.ownBlock.toList)) := by simp [Rep.fpPast]
    have hn := h.nodup
    rw [Rep.fp, hold] at hn
    rw [Rep.fp, hsub]
    show (R.sb :: (R.fpWorks ++ (vl.ownBlock.toList ++ (R.vm.toList ++ R.hist.flatMap (fun p => p.2.sl.ownBlock.toList))))).Nodup
    have hrest : (R.sb :: (R.fpWorks ++ (R.vm.toList ++ R.hist.flatMap (fun p => p.2.sl.ownBlock.toList)))).Nodup := hn.sublist (List.Sublist.cons_cons _ (List.Sublist.append (List.Sublist.refl _) (List.sublist_append_right _ _)))
    cases hv : vl.ownBlock with
    | none => simpa using hrest
    | some g =>
      have hg := hown g hv
      rw [Rep.fp, hold] at hg
      simp only [List.mem_cons, List.mem_append, not_or] at hg
      have hp : (R.sb :: (R.fpWorks ++ ([g] ++ (R.vm.toList ++ R.hist.flatMap (fun p => p.2.sl.ownBlock.toList))))).Perm (g :: (R.sb :: (R.fpWorks ++ (R.vm.toList ++ R.hist.flatMap (fun p => p.2.sl.ownBlock.toList))))) := by
        refine List.Perm.trans (List.Perm.cons _ ?_) (List.Perm.swap _ _ _)
        exact List.perm_middle
      rw [Option.toList_some]
      refine hp.nodup_iff.2 (List.nodup_cons.2 ⟨?_, hrest⟩)
      simp only [List.mem_cons, List.mem_append, not_or]
      exact ⟨hg.1, hg.2.1, hg.2.2.2⟩

/-- A new box is none of what is old. -/
theorem new_box {wr w3 w4 : World} {S : Nat → Prop} {b : Nat} {o : Obj} (h : w3.heap[b]? = some o) (hb : wr.heap.size ≤ b) (hk : Keeps S w3 w4) (hS : ∀ k, S k → k < wr.heap.size) : w4.heap[b]? = some o :=
  (hk.block b (Array.getElem?_eq_some_iff.1 h).1 (fun e => by have := hS b e; omega)).trans h

end Go.Proofs.YtpagenipflmlfaaGreatDoor
