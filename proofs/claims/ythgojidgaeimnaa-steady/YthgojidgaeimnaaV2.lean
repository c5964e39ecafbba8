/- What Sweep of what has been keeps between its rounds. -/
import Derived.Test.YthgojidgaeimnaaV1
namespace Go.Proofs.Ythgojidgaeimnaa
open Go.RowKit Go.Shelf

/-- is anything left of a key's versions? -/
def staysB (R : Rep) (L : Int) (k : ByteArray) : Bool := decide (needN (versOf R.hist k) L < (versOf R.hist k).length)

/-- the keys of which something is left, among the first i -/
def leftL (R : Rep) (L : Int) (i : Nat) : List ByteArray := (R.keys.take i).filter (staysB R L)

theorem leftL_succ {R : Rep} {L : Int} {i : Nat} (hi : i < R.keys.length) : leftL R L (i + 1) = leftL R L i ++ (if staysB R L R.keys[i] = true then [R.keys[i]] else []) := by
  unfold leftL
  rw [List.take_succ_eq_append_getElem hi, List.filter_append]
  congr 1
  cases h : staysB R L R.keys[i] <;> simp [h]

structure SweepS (w : World) (R : Rep) (L : Int) (cb nf : Nat) (C0 : List Nat) (pB i j : Nat) (hist : List (ByteArray × HsR)) (fs : List Value) (C : List Nat) (vl : Value) (wr : World) : Prop where
  st : StoreAt wr { R with hist := hist }
  vers : ∀ k, versOf hist k = if memB (R.keys.take i) k then (versOf R.hist k).drop (needN (versOf R.hist k) L) else versOf R.hist k
  some_ : ∀ k, (look hist k).isSome = true → (look R.hist k).isSome = true
  filled : ∀ p ∈ hist, p.2.vers ≠ []
  row : Row wr 9 1 vl (leftL R L j).length ((leftL R L j).map Value.string)
  own : ∀ g, vl.ownBlock = some g → w.heap.size < g ∧ g ∉ C ∧ g ∉ Rep.fp { R with hist := hist }
  chg : Chg wr cb fs C
  len : fs.length ≤ nf + i
  cfr : ∀ k ∈ C, k ∈ C0 ∨ w.heap.size < k
  ffr : ∀ k ∈ Rep.fp { R with hist := hist }, k ∈ R.fp ∨ w.heap.size < k
  apart : ∀ k ∈ C, k ∉ Rep.fp { R with hist := hist }
  box : wr.heap[pB]? = some (.cells #[.pointer (some ⟨R.sb, 5, none⟩)] 97 (0, 0))
  keep : Keeps (fun k => k ∈ R.fp ∨ k ∈ C0) w wr
  size : w.heap.size < wr.heap.size

theorem SweepS.kept {w : World} {R : Rep} {L : Int} {cb nf : Nat} {C0 : List Nat} {pB i j : Nat} {hist : List (ByteArray × HsR)} {fs : List Value} {C : List Nat} {vl : Value} {wr wr' : World} (h : SweepS w R L cb nf C0 pB i j hist fs C vl wr) (hk : Keeps (fun _ => False) wr wr') : SweepS w R L cb nf C0 pB i j hist fs C vl wr' :=
  ⟨h.st.kept hk (fun _ _ h => h), h.vers, h.some_, h.filled, h.row.kept hk (fun _ _ h => h), h.own, h.chg.kept hk (fun _ _ h => h), h.len, h.cfr, h.ffr, h.apart, (hk.block pB (Array.getElem?_eq_some_iff.1 h.box).1 (fun h => h)).trans h.box, h.keep.tr hk (fun _ h => h.elim), Nat.lt_of_lt_of_le h.size hk.size⟩

/-- nothing is thrown away -/
theorem SweepS.stay {w : World} {R : Rep} {L : Int} {cb nf : Nat} {C0 : List Nat} {pB i j : Nat} {hist : List (ByteArray × HsR)} {fs : List Value} {C : List Nat} {vl : Value} {wr : World} (h : SweepS w R L cb nf C0 pB i j hist fs C vl wr) (hi : i < R.keys.length) (hn : needN (versOf R.hist R.keys[i]) L = 0) : SweepS w R L cb nf C0 pB (i + 1) j hist fs C vl wr := by
  refine ⟨h.st, fun k => ?_, h.some_, h.filled, h.row, h.own, h.chg, Nat.le_trans h.len (by omega), h.cfr, h.ffr, h.apart, h.box, h.keep, h.size⟩
  rw [h.vers k, List.take_succ_eq_append_getElem hi, memB_snoc]
  by_cases e : R.keys[i] = k
  · subst e
    simp only [decide_true, Bool.or_true, if_true, hn, List.drop_zero]
    split <;> rfl
  · simp [e]

/-- a key of which nothing is left is not noted -/
theorem SweepS.skip {w : World} {R : Rep} {L : Int} {cb nf : Nat} {C0 : List Nat} {pB i : Nat} {hist : List (ByteArray × HsR)} {fs : List Value} {C : List Nat} {vl : Value} {wr : World} {j : Nat} (h : SweepS w R L cb nf C0 pB i j hist fs C vl wr) (hj : j < R.keys.length) (hn : staysB R L R.keys[j] = false) : SweepS w R L cb nf C0 pB i (j + 1) hist fs C vl wr := by
  have e : leftL R L (j + 1) = leftL R L j := by rw [leftL_succ hj, hn]; simp
  exact ⟨h.st, h.vers, h.some_, h.filled, by rw [e]; exact h.row, h.own, h.chg, h.len, h.cfr, h.ffr, h.apart, h.box, h.keep, h.size⟩

/-- one that stays is -/
theorem SweepS.note {w : World} {R : Rep} {L : Int} {cb nf : Nat} {C0 : List Nat} {pB i : Nat} {hist : List (ByteArray × HsR)} {fs : List Value} {C : List Nat} {vl vl' : Value} {wr w1 : World} {o : Obj} {j : Nat} (h : SweepS w R L cb nf C0 pB i j hist fs C vl wr) (hj : j < R.keys.length) (hn : staysB R L R.keys[j] = true) (hpB : pB = w.heap.size)
    (hr : Row w1 9 1 vl' ((leftL R L j).length + 1) ((leftL R L j).map Value.string ++ [.string R.keys[j]])) (hg : (wr.alloc o).grownBy w1 vl.ownBlock) (ho : vl'.ownBlock = vl.ownBlock ∨ vl'.ownBlock = some (wr.alloc o).heap.size) : SweepS w R L cb nf C0 pB i (j + 1) hist fs C vl' w1 := by
  have e : leftL R L (j + 1) = leftL R L j ++ [R.keys[j]] := by rw [leftL_succ hj, hn]; simp
  have hk : Keeps (fun k => some k = vl.ownBlock) wr w1 := ((Keeps.refl _ wr).al o).tr (Keeps.grown hg) (fun _ h => h)
  have hfl := fp_lt h.st
  have hcl := h.chg.lt
  have hsz := h.size
  have hzw : wr.heap.size + 1 ≤ w1.heap.size := by have := hg.size; simpa using this
  refine ⟨h.st.kept hk (fun k hk' e => (h.own k e.symm).2.2 hk'), h.vers, h.some_, h.filled, by rw [e]; simpa using hr, fun g hgv => ?_, h.chg.kept hk (fun k hkC e => (h.own k e.symm).2.1 hkC), h.len, h.cfr, h.ffr, h.apart, ?_, h.keep.trans hk (fun k hk' e => ?_), by omega⟩
  · rcases ho with e1 | e1
    · exact h.own g (by rw [← e1]; exact hgv)
    · rw [hgv] at e1
      simp at e1
      exact ⟨by omega, fun hc => by have := hcl g hc; omega, fun hf => by have := hfl g hf; omega⟩
  · refine (hk.block pB (Array.getElem?_eq_some_iff.1 h.box).1 (fun e => ?_)).trans h.box
    have := (h.own pB e.symm).1
    omega
  · have := (h.own k e.symm).1
    omega

/-- a key's first versions go -/
theorem SweepS.thrown {w : World} {R : Rep} {L : Int} {cb nf : Nat} {C0 : List Nat} {pB i j : Nat} {hist : List (ByteArray × HsR)} {fs fs' : List Value} {C C' : List Nat} {vl : Value} {wr w1 w2 : World} (h : SweepS w R L cb nf C0 pB i j hist fs C vl wr) (hr : Rises R.keys) (hi : i < R.keys.length) (hpB : pB = w.heap.size) (hC0 : ∀ k ∈ C0, k < w.heap.size) (hRf : ∀ k ∈ R.fp, k < w.heap.size)
    (hc : Chg w1 cb fs' C') (hl : fs'.length ≤ fs.length + 1) (hk1 : Keeps (· ∈ C) wr w1) (hC' : ∀ k ∈ C', k ∈ C ∨ wr.heap.size ≤ k) (ht : ThrowPost { R with hist := hist } R.keys[i] (needN (versOf R.hist R.keys[i]) L) w1 w2) :
    ∃ hist', SweepS w R L cb nf C0 pB (i + 1) j hist' fs' C' vl w2 := by
  obtain ⟨hist', t1, t2, t3, t4, t5, t6⟩ := ht
  have hsz := h.size
  have hz1 := hk1.size
  have hfl := fp_lt h.st
  have hcl := h.chg.lt
  have hni : memB (R.keys.take i) R.keys[i] = false := by
    cases hm : memB (R.keys.take i) R.keys[i] with
    | false => rfl
    | true =>
      have hm' := (memB_iff _ _).1 hm
      obtain ⟨q, hq, e⟩ := List.getElem_of_mem hm'
      simp only [List.length_take] at hq
      rw [List.getElem_take] at e
      have := (List.getElem_inj (rises_nodup hr)).1 e
      omega
  have hvi : versOf hist R.keys[i] = versOf R.hist R.keys[i] := by rw [h.vers, hni]; simp
  have hsb : ∀ k ∈ Rep.fp { R with hist := hist' }, k ∈ Rep.fp { R with hist := hist } ∨ w1.heap.size ≤ k := t6
  refine ⟨hist', t1, fun k => ?_, fun k hk => h.some_ k (t3 k hk), t4 h.filled, ?_, fun g hg => ?_, hc.kept t5 (fun k hk hf => ?_), ?_, fun k hk => ?_, fun k hk => ?_, fun k hk hf => ?_, ?_, ?_, ?_⟩
  · rw [t2 k, List.take_succ_eq_append_getElem hi, memB_snoc]
    by_cases e : k = R.keys[i]
    · subst e
      simp only [if_true, decide_true, Bool.or_true]
      have e2 : versOf ({ R with hist := hist } : Rep).hist R.keys[i] = versOf R.hist R.keys[i] := hvi
      rw [e2]
    · have e' : ¬ R.keys[i] = k := fun h => e h.symm
      rw [if_neg e]
      have e2 : versOf ({ R with hist := hist } : Rep).hist k = versOf hist k := rfl
      rw [e2, h.vers k]
      simp [e']
  · exact (h.row.kept hk1 (fun g hg hgC => (h.own g hg).2.1 hgC)).kept t5 (fun g hg hf => (h.own g hg).2.2 hf)
  · obtain ⟨o1, o2, o3⟩ := h.own g hg
    have hgl := h.row.lt hg
    refine ⟨o1, fun hc' => ?_, fun hf => ?_⟩
    · rcases hC' g hc' with h1 | h1
      · exact o2 h1
      · omega
    · rcases hsb g hf with h1 | h1
      · exact o3 h1
      · omega
  · rcases hC' k hk with h1 | h1
    · exact h.apart k h1 hf
    · have := hfl k hf
      omega
  · have := h.len
    omega
  · rcases hC' k hk with h1 | h1
    · exact h.cfr k h1
    · right; omega
  · rcases hsb k hk with h1 | h1
    · exact h.ffr k h1
    · right; omega
  · rcases hC' k hk with h1 | h1
    · rcases hsb k hf with h2 | h2
      · exact h.apart k h1 h2
      · have := hcl k h1; omega
    · rcases hsb k hf with h2 | h2
      · have := hfl k h2; omega
      · have := hc.lt k hk; omega
  · have b1 : w1.heap[pB]? = some (.cells #[.pointer (some ⟨R.sb, 5, none⟩)] 97 (0, 0)) := (hk1.block pB (Array.getElem?_eq_some_iff.1 h.box).1 (fun hc' => by
      rcases h.cfr pB hc' with h1 | h1
      · have := hC0 pB h1; omega
      · omega)).trans h.box
    refine (t5.block pB (Array.getElem?_eq_some_iff.1 b1).1 (fun hf => ?_)).trans b1
    rcases h.ffr pB hf with h1 | h1
    · have := hRf pB h1; omega
    · omega
  · refine (h.keep.trans hk1 (fun k hk hc' => ?_)).trans t5 (fun k hk hf => ?_)
    · rcases h.cfr k hc' with h1 | h1
      · exact .inr h1
      · omega
    · rcases h.ffr k hf with h1 | h1
      · exact .inl h1
      · omega
  · have := t5.size
    omega

theorem needN_le (vs : List Ver) (t : Int) : needN vs t ≤ vs.length := by
  have h := upN_le vs t
  unfold needN
  split
  · split <;> omega
  · omega

/-- The list of keys is another one. -/
theorem StoreAt.newKeys {w : World} {R : Rep} {vl : Value} {ks : List ByteArray} (h : StoreAt w R) (hr : Row w 9 1 vl ks.length (ks.map Value.string)) (hown : ∀ g, vl.ownBlock = some g → g ∉ R.fp) :
    StoreAt (w.setCell ⟨R.sb, 5, none⟩ vl) { R with kv := vl, keys := ks } ∧ ∀ k ∈ Rep.fp { R with kv := vl, keys := ks }, k ∈ R.fp ∨ vl.ownBlock = some k := by
  have hk : Keeps (· = R.sb) w (w.setCell ⟨R.sb, 5, none⟩ vl) := Keeps.setCell w ⟨R.sb, 5, none⟩ vl
  have hnd := h.nodup
  simp only [Rep.fp, List.nodup_cons, List.mem_append, not_or] at hnd
  have hmem : ∀ k ∈ Rep.fp { R with kv := vl, keys := ks }, k ∈ R.fp ∨ vl.ownBlock = some k := fun k hk' => by
    simp only [Rep.fp, Rep.fpWorks, Rep.fpPast, List.mem_cons, List.mem_append, Option.mem_toList] at hk' ⊢
    rcases hk' with h1 | h1 | (h1 | h1) | h1
    · exact .inl (.inl h1)
    · exact .inl (.inr (.inl h1))
    · exact .inr h1
    · exact .inl (.inr (.inr (.inl (.inr h1))))
    · exact .inl (.inr (.inr (.inr h1)))
  have hsbo : vl.ownBlock ≠ some R.sb := fun e => hown R.sb e (by simp [Rep.fp])
  refine ⟨⟨?_, ?_, ⟨?_, ?_, ?_⟩, ?_⟩, hmem⟩
  · show (w.setCell ⟨R.sb, 5, none⟩ vl).heap[R.sb]? = _
    rw [heap_setCell_same h.top]
    simp [topCells]
  · have hw := h.works.kept hk (fun k hk' e => hnd.1.1 (by rw [← e]; exact hk'))
    exact ⟨hw.worksMap, hw.worksEach, hw.pinsMap⟩
  · exact hr.kept hk (fun g hg e => hsbo (by rw [hg, e]))
  · exact h.past.histMap.kept hk (fun b hb e => hnd.1.2 (by rw [← e]; simp [Rep.fpPast, hb]))
  · intro p hp
    refine (h.past.histEach p hp).kept hk (fun g hg e => hnd.1.2 ?_)
    rw [← e]
    simp only [Rep.fpPast, List.mem_append, List.mem_flatMap]
    exact .inr ⟨p, hp, by simp [hg]⟩
  · have hsub : (Rep.fpPast { R with kv := vl, keys := ks }) = vl.ownBlock.toList ++ (R.vm.toList ++ R.hist.flatMap (fun p => p.2.sl.ownBlock.toList)) := by simp [Rep.fpPast]
    have hold : R.fpPast = R.kv.ownBlock.toList ++ (R.vm.toList ++ R.hist.flatMap (fun p => p.2.sl.ownBlock.toList)) := by simp [Rep.fpPast]
    have hn := h.nodup
    rw [Rep.fp, hold] at hn
    rw [Rep.fp, hsub]
    show (R.sb :: (R.fpWorks ++ (vl.ownBlock.toList ++ (R.vm.toList ++ R.hist.flatMap (fun p => p.2.sl.ownBlock.toList))))).Nodup
    have hrest : (R.sb :: (R.fpWorks ++ (R.vm.toList ++ R.hist.flatMap (fun p => p.2.sl.ownBlock.toList)))).Nodup := hn.sublist (List.Sublist.cons_cons _ (List.Sublist.append (List.Sublist.refl _) (List.sublist_append_right _ _)))
    cases hv : vl.ownBlock with
    | none => simpa using hrest
    | some g =>
      have hg := hown g hv
      rw [Rep.fp, hold] at hg
      simp only [List.mem_cons, List.mem_append, not_or] at hg
      have hp : (R.sb :: (R.fpWorks ++ ([g] ++ (R.vm.toList ++ R.hist.flatMap (fun p => p.2.sl.ownBlock.toList))))).Perm (g :: (R.sb :: (R.fpWorks ++ (R.vm.toList ++ R.hist.flatMap (fun p => p.2.sl.ownBlock.toList))))) := by
        refine List.Perm.trans (List.Perm.cons _ ?_) (List.Perm.swap _ _ _)
        exact List.perm_middle
      rw [Option.toList_some]
      refine hp.nodup_iff.2 (List.nodup_cons.2 ⟨?_, hrest⟩)
      simp only [List.mem_cons, List.mem_append, not_or]
      exact ⟨hg.1, hg.2.1, hg.2.2.2⟩

/-- A new box is none of what is old. -/
theorem new_box {wr w3 w4 : World} {S : Nat → Prop} {b : Nat} {o : Obj} (h : w3.heap[b]? = some o) (hb : wr.heap.size ≤ b) (hk : Keeps S w3 w4) (hS : ∀ k, S k → k < wr.heap.size) : w4.heap[b]? = some o :=
  (hk.block b (Array.getElem?_eq_some_iff.1 h).1 (fun e => by have := hS b e; omega)).trans h

end Go.Proofs.Ythgojidgaeimnaa
