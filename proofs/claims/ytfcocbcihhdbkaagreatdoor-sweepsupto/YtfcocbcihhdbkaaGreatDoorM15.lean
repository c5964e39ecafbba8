import Derived.Test.YtfcocbcihhdbkaaGreatDoorM14

/- What Sweep of what has been keeps between its rounds. -/
namespace Go.Proofs.YtfcocbcihhdbkaaGreatDoor
open Go.RowKit Go.Shelf

/-- is anything left of a key's versions? -/
def staysB (R : Rep) (L : Int) (k : ByteArray) : Bool := decide (needN (versOf R.hist k) L < (versOf R.hist k).length)

/-- the keys of which something is left, among the first i -/
def leftL (R : Rep) (L : Int) (i : Nat) : List ByteArray := (R.keys.take i).filter (staysB R L)

theorem leftL_succ {R : Rep} {L : Int} {i : Nat} (hi : i < R.keys.length) : leftL R L (i + 1) = leftL R L i ++ (if staysB R L R.keys[i] = true then [R.keys[i]] else []) := by
  unfold leftL
  rw [List.take_succ_eq_append_getElem hi, List.filter_append]
  congr 1
  cases h : staysB R L R.keys[i] <;> simp [h]

structure SweepS (w : World) (R : Rep) (L : Int) (cb nf : Nat) (C0 : List Nat) (pB i j : Nat) (hist : List (ByteArray × HsR)) (fs : List Value) (C : List Nat) (vl : Value) (wr : World) : Prop where
  st : StoreAt wr { R with hist := hist }
  vers : ∀ k, versOf hist k = if memB (R.keys.take i) k then (versOf R.hist k).drop (needN (versOf R.hist k) L) else versOf R.hist k
  some_ : ∀ k, (look hist k).isSome = true → (look R.hist k).isSome = true
  filled : ∀ p ∈ hist, p.2.vers ≠ []
  row : Row wr 9 1 vl (leftL R L j).length ((leftL R L j).map Value.string)
  own : ∀ g, vl.ownBlock = some g → w.heap.size < g ∧ g ∉ C ∧ g ∉ Rep.fp { R with hist := hist }
  chg : Chg wr cb fs C
  len : fs.length ≤ nf + i
  cfr : ∀ k ∈ C, k ∈ C0 ∨ w.heap.size < k
  ffr : ∀ k ∈ Rep.fp { R with hist := hist }, k ∈ R.fp ∨ w.heap.size < k
  apart : ∀ k ∈ C, k ∉ Rep.fp { R with hist := hist }
  box : wr.heap[pB]? = some (.cells #[.pointer (some ⟨R.sb, 7, none⟩)] 184 (0, 0))
  keep : Keeps (fun k => k ∈ R.fp ∨ k ∈ C0) w wr
  size : w.heap.size < wr.heap.size

theorem SweepS.kept {w : World} {R : Rep} {L : Int} {cb nf : Nat} {C0 : List Nat} {pB i j : Nat} {hist : List (ByteArray × HsR)} {fs : List Value} {C : List Nat} {vl : Value} {wr wr' : World} (h : SweepS w R L cb nf C0 pB i j hist fs C vl wr) (hk : Keeps (fun _ => False) wr wr') : SweepS w R L cb nf C0 pB i j hist fs C vl wr' :=
  ⟨h.st.kept hk (fun _ _ h => h), h.vers, h.some_, h.filled, h.row.kept hk (fun _ _ h => h), h.own, h.chg.kept hk (fun _ _ h => h), h.len, h.cfr, h.ffr, h.apart, (hk.block pB (Array.getElem?_eq_some_iff.1 h.box).1 (fun h => h)).trans h.box, h.keep.tr hk (fun _ h => h.elim), Nat.lt_of_lt_of_le h.size hk.size⟩

/-- nothing is thrown away -/
theorem SweepS.stay {w : World} {R : Rep} {L : Int} {cb nf : Nat} {C0 : List Nat} {pB i j : Nat} {hist : List (ByteArray × HsR)} {fs : List Value} {C : List Nat} {vl : Value} {wr : World} (h : SweepS w R L cb nf C0 pB i j hist fs C vl wr) (hi : i < R.keys.length) (hn : needN (versOf R.hist R.keys[i]) L = 0) : SweepS w R L cb nf C0 pB (i + 1) j hist fs C vl wr := by
  refine ⟨h.st, fun k => ?_, h.some_, h.filled, h.row, h.own, h.chg, Nat.le_trans h.len (by omega), h.cfr, h.ffr, h.apart, h.box, h.keep, h.size⟩
  rw [h.vers k, List.take_succ_eq_append_getElem hi, memB_snoc]
  by_cases e : R.keys[i] = k
  · subst e
    simp only [decide_true, Bool.or_true, if_true, hn, List.drop_zero]
    split <;> rfl
  · simp [e]

/-- a key of which nothing is left is not noted -/
theorem SweepS.skip {w : World} {R : Rep} {L : Int} {cb nf : Nat} {C0 : List Nat} {pB i : Nat} {hist : List (ByteArray × HsR)} {fs : List Value} {C : List Nat} {vl : Value} {wr : World} {j : Nat} (h : SweepS w R L cb nf C0 pB i j hist fs C vl wr) (hj : j < R.keys.length) (hn : staysB R L R.keys[j] = false) : SweepS w R L cb nf C0 pB i (j + 1) hist fs C vl wr := by
  have e : leftL R L (j + 1) = leftL R L j := by rw [leftL_succ hj, hn]; simp
  exact ⟨h.st, h.vers, h.some_, h.filled, by rw [e]; exact h.row, h.own, h.chg, h.len, h.cfr, h.ffr, h.apart, h.box, h.keep, h.size⟩

/-- one that stays is -/
theorem SweepS.note {w : World} {R : Rep} {L : Int} {cb nf : Nat} {C0 : List Nat} {pB i : Nat} {hist : List (ByteArray × HsR)} {fs : List Value} {C : List Nat} {vl vl' : Value} {wr w1 : World} {o : Obj} {j : Nat} (h : SweepS w R L cb nf C0 pB i j hist fs C vl wr) (hj : j < R.keys.length) (hn : staysB R L R.keys[j] = true) (hpB : pB = w.heap.size)
    (hr : Row w1 9 1 vl' ((leftL R L j).length + 1) ((leftL R L j).map Value.string ++ [.string R.keys[j]])) (hg : (wr.alloc o).grownBy w1 vl.ownBlock) (ho : vl'.ownBlock = vl.ownBlock ∨ vl'.ownBlock = some (wr.alloc o).heap.size) : SweepS w R L cb nf C0 pB i (j + 1) hist fs C vl' w1 := by
  have e : leftL R L (j + 1) = leftL R L j ++ [R.keys[j]] := by rw [leftL_succ hj, hn]; simp
  have hk : Keeps (fun k => some k = vl.ownBlock) wr w1 := ((Keeps.refl _ wr).al o).tr (Keeps.grown hg) (fun _ h => h)
  have hfl := fp_lt h.st
  have hcl := h.chg.lt
  have hsz := h.size
  have hzw : wr.heap.size + 1 ≤ w1.heap.size := by have := hg.size; simpa using this
  refine ⟨h.st.kept hk (fun k hk' e => (h.own k e.symm).2.2 hk'), h.vers, h.some_, h.filled, by rw [e]; simpa using hr, fun g hgv => ?_, h.chg.kept hk (fun k hkC e => (h.own k e.symm).2.1 hkC), h.len, h.cfr, h.ffr, h.apart, ?_, h.keep.trans hk (fun k hk' e => ?_), by omega⟩
  · rcases ho with e1 | e1
    · exact h.own g (by rw [← e1]; exact hgv)
    · rw [hgv] at e1
      simp at e1
      exact ⟨by omega, fun hc => by have := hcl g hc; omega, fun hf => by have := hfl g hf; omega⟩
  · refine (hk.block pB (Array.getElem?_eq_some_iff.1 h.box).1 (fun e => ?_)).trans h.box
    have := (h.own pB e.symm).1
    omega
  · have := (h.own k e.symm).1
    omega

/-- a key's first versions go -/
theorem SweepS.thrown {w : World} {R : Rep} {L : Int} {cb nf : Nat} {C0 : List Nat} {pB i j : Nat} {hist : List (ByteArray × HsR)} {fs fs' : List Value} {C C' : List Nat} {vl : Value} {wr w1 w2 : World} (h : SweepS w R L cb nf C0 pB i j hist fs C vl wr) (hr : Rises R.keys) (hi : i < R.keys.length) (hpB : pB = w.heap.size) (hC0 : ∀ k ∈ C0, k < w.heap.size) (hRf : ∀ k ∈ R.fp, k < w.heap.size)
    (hc : Chg w1 cb fs' C') (hl : fs'.length ≤ fs.length + 1) (hk1 : Keeps (· ∈ C) wr w1) (hC' : ∀ k ∈ C', k ∈ C ∨ wr.heap.size ≤ k) (ht : ThrowPost { R with hist := hist } R.keys[i] (needN (versOf R.hist R.keys[i]) L) w1 w2) :
    ∃ hist', SweepS w R L cb nf C0 pB (i + 1) j hist' fs' C' vl w2 := by
  obtain ⟨hist', t1, t2, t3, t4, t5, t6⟩ := ht
  have hsz := h.size
  have hz1 := hk1.size
  have hfl := fp_lt h.st
  have hcl := h.chg.lt
  have hni : memB (R.keys.take i) R.keys[i] = false := by
    cases hm : memB (R.keys.take i) R.keys[i] with
    | false => rfl
    | true =>
      have hm' := (memB_iff _ _).1 hm
      obtain ⟨q, hq, e⟩ := List.getElem_of_mem hm'
      simp only [List.length_take] at hq
      rw [List.getElem_take] at e
      have := (List.getElem_inj (rises_nodup hr)).1 e
      omega
  have hvi : versOf hist R.keys[i] = versOf R.hist R.keys[i] := by rw [h.vers, hni]; simp
  have hsb : ∀ k ∈ Rep.fp { R with hist := hist' }, k ∈ Rep.fp { R with hist := hist } ∨ w1.heap.size ≤ k := t6
  refine ⟨hist', t1, fun k => ?_, fun k hk => h.some_ k (t3 k hk), t4 h.filled, ?_, fun g hg => ?_, hc.kept t5 (fun k hk hf => ?_), ?_, fun k hk => ?_, fun k hk => ?_, fun k hk hf => ?_, ?_, ?_, ?_⟩
  · rw [t2 k, List.take_succ_eq_append_getElem hi, memB_snoc]
    by_cases e : k = R.keys[i]
    · subst e
      simp only [if_true, decide_true, Bool.or_true]
      have e2 : versOf ({ R with hist := hist } : Rep).hist R.keys[i] = versOf R.hist R.keys[i] := hvi
      rw [e2]
    · have e' : ¬ R.keys[i] = k := fun h => e h.symm
      rw [if_neg e]
      have e2 : versOf ({ R with hist := hist } : Rep).hist k = versOf hist k := rfl
      rw [e2, h.vers k]
      simp [e']
  · exact (h.row.kept hk1 (fun g hg hgC => (h.own g hg).2.1 hgC)).kept t5 (fun g hg hf => (h.own g hg).2.2 hf)
  · obtain ⟨o1, o2, o3⟩ := h.own g hg
    have hgl := h.row.lt hg
    refine ⟨o1, fun hc' => ?_, fun hf => ?_⟩
    · rcases hC' g hc' with h1 | h1
      · exact o2 h1
      · omega
    · rcases hsb g hf with h1 | h1
      · exact o3 h1
      · omega
  · rcases hC' k hk with h1 | h1
    · exact h.apart k h1 hf
    · have := hfl k hf
      omega
  · have := h.len
    omega
  · rcases hC' k hk with h1 | h1
    · exact h.cfr k h1
    · right; omega
  · rcases hsb k hk with h1 | h1
    · exact h.ffr k h1
    · right; omega
  · rcases hC' k hk with h1 | h1
    · rcases hsb k hf with h2 | h2
      · exact h.apart k h1 h2
      · have := hcl k h1; omega
    · rcases hsb k hf with h2 | h2
      · have := hfl k h2; omega
      · have := hc.lt k hk; omega
  · have b1 : w1.heap[pB]? = some (.cells #[.pointer (some ⟨R.sb, 7, none⟩)] 184 (0, 0)) := (hk1.block pB (Array.getElem?_eq_some_iff.1 h.box).1 (fun hc' => by
      rcases h.cfr pB hc' with h1 | h1
      · have := hC0 pB h1; omega
      · omega)).trans h.box
    refine (t5.block pB (Array.getElem?_eq_some_iff.1 b1).1 (fun hf => ?_)).trans b1
    rcases h.ffr pB hf with h1 | h1
    · have := hRf pB h1; omega
    · omega
  · refine (h.keep.trans hk1 (fun k hk hc' => ?_)).trans t5 (fun k hk hf => ?_)
    · rcases h.cfr k hc' with h1 | h1
      · exact .inr h1
      · omega
    · rcases h.ffr k hf with h1 | h1
      · exact .inl h1
      · omega
  · have := t5.size
    omega

theorem needN_le (vs : List Ver) (t : Int) : needN vs t ≤ vs.length := by
  have h := upN_le vs t
  unfold needN
  split
  · split <;> omega
  · omega

/-- The list of keys is another one. -/
theorem StoreAt.newKeys {w : World} {R : Rep} {vl : Value} {ks : List ByteArray} (h : StoreAt w R) (hr : Row w 9 1 vl ks.length (ks.map Value.string)) (hown : ∀ g, vl.ownBlock = some g → g ∉ R.fp) :
    StoreAt (w.setCell ⟨R.sb, 7, none⟩ vl) { R with kv := vl, keys := ks } ∧ ∀ k ∈ Rep.fp { R with kv := vl, keys := ks }, k ∈ R.fp ∨ vl.ownBlock = some k := by
  have hk : Keeps (· = R.sb) w (w.setCell ⟨R.sb, 7, none⟩ vl) := Keeps.setCell w ⟨R.sb, 7, none⟩ vl
  have hnd := h.nodup
  simp only [Rep.fp, List.nodup_cons, List.mem_append, not_or] at hnd
  have hmem : ∀ k ∈ Rep.fp { R with kv := vl, keys := ks }, k ∈ R.fp ∨ vl.ownBlock = some k := fun k hk' => by
    simp only [Rep.fp, Rep.fpWorks, Rep.fpPast, List.mem_cons, List.mem_append, Option.mem_toList] at hk' ⊢
    rcases hk' with h1 | h1 | (h1 | h1) | h1
    · exact .inl (.inl h1)
    · exact .inl (.inr (.inl h1))
    · exact .inr h1
    · exact .inl (.inr (.inr (.inl (.inr h1))))
    · exact .inl (.inr (.inr (.inr h1)))
  have hsbo : vl.ownBlock ≠ some R.sb := fun e => hown R.sb e (by simp [Rep.fp])
  refine ⟨⟨?_, ?_, ⟨?_, ?_, ?_⟩, ?_⟩, hmem⟩
  · show (w.setCell ⟨R.sb, 7, none⟩ vl).heap[R.sb]? = _
    rw [heap_setCell_same h.top]
    simp [topCells]
  · have hw := h.works.kept hk (fun k hk' e => hnd.1.1 (by rw [← e]; exact hk'))
    exact ⟨hw.worksMap, hw.worksEach, hw.pinsMap, hw.copyMap⟩
  · exact hr.kept hk (fun g hg e => hsbo (by rw [hg, e]))
  · exact h.past.histMap.kept hk (fun b hb e => hnd.1.2 (by rw [← e]; simp [Rep.fpPast, hb]))
  · intro p hp
    refine (h.past.histEach p hp).kept hk (fun g hg e => hnd.1.2 ?_)
    rw [← e]
    simp only [Rep.fpPast, List.mem_append, List.mem_flatMap]
    exact .inr ⟨p, hp, by simp [hg]⟩
  · have hsub : (Rep.fpPast { R with kv := vl, keys := ks }) = vl.ownBlock.toList ++ (R.vm.toList ++ R.hist.flatMap (fun p => p.2.sl.ownBlock.toList)) := by simp [Rep.fpPast]
    have hold : R.fpPast = R.kv.ownBlock.toList ++ (R.vm.toList ++ R.hist.flatMap (fun p => p.2.sl.ownBlock.toList)) := by simp [Rep.fpPast]
    have hn := h.nodup
    rw [Rep.fp, hold] at hn
    rw [Rep.fp, hsub]
    show (R.sb :: (R.fpWorks ++ (vl.ownBlock.toList ++ (R.vm.toList ++ R.hist.flatMap (fun p => p.2.sl.ownBlock.toList))))).Nodup
    have hrest : (R.sb :: (R.fpWorks ++ (R.vm.toList ++ R.hist.flatMap (fun p => p.2.sl.ownBlock.toList)))).Nodup := hn.sublist (List.Sublist.cons_cons _ (List.Sublist.append (List.Sublist.refl _) (List.sublist_append_right _ _)))
    cases hv : vl.ownBlock with
    | none => simpa using hrest
    | some g =>
      have hg := hown g hv
      rw [Rep.fp, hold] at hg
      simp only [List.mem_cons, List.mem_append, not_or] at hg
      have hp : (R.sb :: (R.fpWorks ++ ([g] ++ (R.vm.toList ++ R.hist.flatMap (fun p => p.2.sl.ownBlock.toList))))).Perm (g :: (R.sb :: (R.fpWorks ++ (R.vm.toList ++ R.hist.flatMap (fun p => p.2.sl.ownBlock.toList))))) := by
        refine List.Perm.trans (List.Perm.cons _ ?_) (List.Perm.swap _ _ _)
        exact List.perm_middle
      rw [Option.toList_some]
      refine hp.nodup_iff.2 (List.nodup_cons.2 ⟨?_, hrest⟩)
      simp only [List.mem_cons, List.mem_append, not_or]
      exact ⟨hg.1, hg.2.1, hg.2.2.2⟩

/-- A new box is none of what is old. -/
theorem new_box {wr w3 w4 : World} {S : Nat → Prop} {b : Nat} {o : Obj} (h : w3.heap[b]? = some o) (hb : wr.heap.size ≤ b) (hk : Keeps S w3 w4) (hS : ∀ k, S k → k < wr.heap.size) : w4.heap[b]? = some o :=
  (hk.block b (Array.getElem?_eq_some_iff.1 h).1 (fun e => by have := hS b e; omega)).trans h

end Go.Proofs.YtfcocbcihhdbkaaGreatDoor

/- Sweep of what has been, walked. -/
namespace Go.Proofs.YtfcocbcihhdbkaaGreatDoor
open Go.RowKit Go.Shelf

theorem Tryz.infoStr : (Tryz.prog.info? 9).map (fun i => (i.zero, i.size, i.bytes)) = some (some (.string ⟨#[]⟩), 1, 16) := by kernel_rfl

/-- What Sweep of what has been leaves. -/
def PastSwept (R : Rep) (L : Int) (C0 : List Nat) (w w' : World) : Prop :=
  ∃ hist vl, StoreAt w' { R with kv := vl, keys := leftL R L R.keys.length, hist := hist } ∧ (∀ k, versOf hist k = if memB R.keys k then (versOf R.hist k).drop (needN (versOf R.hist k) L) else versOf R.hist k) ∧
    (∀ k, (look hist k).isSome = true → (look R.hist k).isSome = true) ∧ (∀ p ∈ hist, p.2.vers ≠ []) ∧ Keeps (fun k => k ∈ R.fp ∨ k ∈ C0) w w' ∧ ∀ k ∈ Rep.fp { R with kv := vl, keys := leftL R L R.keys.length, hist := hist }, k ∈ R.fp ∨ w.heap.size < k

/-- how many versions go of the first i keys -/
def thrownN (R : Rep) (L : Int) (i : Nat) : Nat := ((R.keys.take i).map (fun k => needN (versOf R.hist k) L)).sum
/-- how many versions there are -/
def Rep.total (R : Rep) : Nat := (R.keys.map (fun k => (versOf R.hist k).length)).sum

theorem thrownN_succ {R : Rep} {L : Int} {i : Nat} (hi : i < R.keys.length) : thrownN R L (i + 1) = thrownN R L i + needN (versOf R.hist R.keys[i]) L := by
  unfold thrownN
  rw [List.take_succ_eq_append_getElem hi, List.map_append, List.sum_append]
  simp only [List.map_cons, List.map_nil, List.sum_cons, List.sum_nil, Nat.add_zero]

theorem sum_map_le {α : Type} (f g : α → Nat) (h : ∀ a, f a ≤ g a) : ∀ l : List α, (l.map f).sum ≤ (l.map g).sum
  | [] => by simp
  | a :: l => by have := h a; have := sum_map_le f g h l; simp; omega

theorem sum_take_le {α : Type} (f : α → Nat) : ∀ (l : List α) (i : Nat), ((l.take i).map f).sum ≤ (l.map f).sum
  | [], i => by simp
  | a :: l, 0 => by simp
  | a :: l, i + 1 => by have := sum_take_le f l i; simp only [List.take_succ_cons, List.map_cons, List.sum_cons]; omega

theorem thrownN_le (R : Rep) (L : Int) (i : Nat) : thrownN R L i ≤ R.total := by
  unfold thrownN Rep.total
  refine Nat.le_trans (sum_map_le _ (fun k => (versOf R.hist k).length) (fun k => needN_le _ _) _) (sum_take_le _ _ _)

set_option maxRecDepth 100000 in
set_option maxHeartbeats 4000000 in
theorem pastSweep_any (R : Rep) (L : Int) (cb : Nat) (fs0 : List Value) (C0 : List Nat) (w : World) (h : StoreAt w R) (g : Good R) (t : Tied R) (hc : Chg w cb fs0 C0) (hap : ∀ k ∈ C0, k ∉ R.fp) (hl : fs0.length ≤ 10) (hkl : R.keys.length < 900000000000) (htot : R.total ≤ 1000000000000000) :
    Calls Tryz.prog 65 #[.pointer (some ⟨R.sb, 7, none⟩), .int .i64 L, .func (.func 66) #[.pointer (some ⟨cb, 0, none⟩)] #[]] w fun e w' => e = .returned (.int .i64 (thrownN R L R.keys.length)) ∧ PastSwept R L C0 w w' := by
  have hmf : ∀ (fn : Fn) (first cap : Array Value) (w : World), (Instr.makeFunc fn first cap).run Tryz.prog w = .ok (.func fn first cap) w := fun _ _ _ _ => rfl
  obtain ⟨av, cv, hkv, hkm, hsome⟩ := h.past.keysRow.form
  have c5 : w.cell? ⟨R.sb, 7, none⟩ = some (.slice av R.keys.length cv) := by rw [← hkv]; exact h.cell 7
  have hlt := h.lt
  have hfl := fp_lt h
  have hS0 : SweepS w R L cb fs0.length C0 w.heap.size 0 0 R.hist fs0 C0 (.slice none 0 0) (w.alloc (.cells #[.pointer (some ⟨R.sb, 7, none⟩)] 184)) := by
    have hk : Keeps (fun _ => False) w (w.alloc (.cells #[.pointer (some ⟨R.sb, 7, none⟩)] 184)) := Keeps.alloc _ _ _
    refine ⟨h.kept hk (fun _ _ h => h), fun k => by simp [memB], fun _ h => h, t.filled, Row.nil _ _ _, fun g hg => by simp [Value.ownBlock] at hg, hc.kept hk (fun _ _ h => h), by omega, fun k hk => .inl hk, fun k hk => .inl hk, hap, heap_new w _, hk.mono (fun _ _ h => h.elim), by simp⟩
  have HS0 := hid hS0
  have HST := hid h
  have HG := hid g
  have HT := hid t
  have HC := hid hc
  have HAP := hid hap
  have HKV := hid hkv
  have HSM := hid hsome
  have HFL := hid hfl
  have HTOT := hid htot
  clear hS0 h g t hc hap hkv hsome hfl htot
  go_enter Tryz.func65, Tryz.ntmps65
  go_wp2_with fail
  go_loopw [7, 8, 19] (fun th vl i wr => ∃ (k : Nat) (z : Int), k ≤ R.keys.length ∧ i = .int .i64 k ∧ th = .int .i64 z ∧ z = (thrownN R L k : Nat) ∧ ∃ hist fs C, SweepS w R L cb fs0.length C0 w.heap.size k k hist fs C vl wr) (fun _ _ i _ => R.keys.length - (intOf i).toNat)
  case atStart => exact ⟨0, 0, Nat.zero_le _, rfl, rfl, rfl, _, _, _, HS0.out⟩
  case round =>
    obtain ⟨k, z, hk, rfl, rfl, hzz, hist, fs, C, hS⟩ := hrel
    have hzb0 : 0 ≤ z := by rw [hzz]; omega
    have hzb1 : z ≤ 1000000000000000 := by rw [hzz]; have := thrownN_le R L k; have := HTOT.out; omega
    have HZ := hid hzz
    clear hzz
    have HS := hid hS
    clear hS HS0
    obtain ⟨al, cl, rfl, hlm, -⟩ := HS.out.row.form
    by_cases hlt2 : k < R.keys.length
    · obtain ⟨ga, rfl⟩ := HSM.out (by omega)
      have hrow := HS.out.st.past.keysRow
      simp only at hrow
      rw [HKV.out] at hrow
      obtain ⟨key, hkey⟩ : ∃ key, R.keys[k] = key := ⟨_, rfl⟩
      have ck : wr.cell? ⟨ga, k, none⟩ = some (.string key) := by
        rw [hrow.cellAt k (by omega)]
        simp [hlt2, hkey]
      have hkm2 : key ∈ R.keys := hkey ▸ List.getElem_mem hlt2
      have hni : memB (R.keys.take k) key = false := by
        cases hm : memB (R.keys.take k) key with
        | false => rfl
        | true =>
          have hm' := (memB_iff _ _).1 hm
          obtain ⟨q, hq, e⟩ := List.getElem_of_mem hm'
          simp only [List.length_take] at hq
          rw [List.getElem_take, ← hkey] at e
          have := (List.getElem_inj (rises_nodup HT.out.rises)).1 e
          omega
      have hvk : versOf hist key = versOf R.hist key := by rw [HS.out.vers, hni]; simp
      have hvne := vers_ne HT.out hkm2
      obtain ⟨x, hx, hxv⟩ : ∃ x, look hist key = some x ∧ x.vers = versOf R.hist key := by
        rw [← hvk]
        cases hl : look hist key with
        | none => rw [← hvk] at hvne; unfold versOf at hvne; rw [hl] at hvne; simp at hvne
        | some x => exact ⟨x, rfl, by unfold versOf; rw [hl]; rfl⟩
      obtain ⟨b, hvm, hM, c6, hsb, hbs, hkvb⟩ := throw_setup (R := { R with hist := hist }) HS.out.st hx
      have hrx := HS.out.st.past.histEach _ (look_mem hx)
      simp only at hrx
      obtain ⟨a2, c2, hxs, hxm, -⟩ := hrx.form
      obtain ⟨g1, g2⟩ := HG.out.vers key
      rw [← hxv] at g1 g2
      have HLKK : Hid (∀ W, Keeps (fun _ => False) wr W → (Instr.lookup 108 (.map (some b)) (.string key) false).run Tryz.prog W = .ok (.slice a2 x.vers.length c2) W) := fun W hk => by
        have := (hM.kept hk (fun h => h)).lookup (P := Tryz.prog) (t := 108) strKeyOk Tryz.underlying108 Tryz.underlying9 (Tryz.zeroVersions W) key false
        rw [look_map, hx] at this
        simp only [Option.map_some, Option.getD_some, hxs] at this
        exact this
      rw [hxs] at hrx
      have HND : Hid (∀ W, Keeps (fun _ => False) wr W → Calls Tryz.prog 118 #[.slice a2 x.vers.length c2, .int .i64 L] W fun e w' => e = .returned (.int .i64 (needN x.vers L : Nat)) ∧ Keeps (fun _ => False) W w') := fun W hk => needless_any _ _ _ W (hrx.kept hk (fun _ _ h => h)) g1 (by omega)
      have cb0 := cell_of_heap HS.out.box 0
      simp at cb0
      have hwsz := HS.out.size
      have HX := hid hx
      have HXV := hid hxv
      have HKEY := hid hkey
      have HVNE := hid hvne
      have HHK := hid (And.intro g1 g2)
      clear hrow hkm2 hni hvk hvne hx hxv hM hbs hkvb hrx g1 g2 hxs hkey HSM
      go_wp2_with fail
      have hlk1 := HLKK.out ((wr.alloc (.cells #[.string key] 9)).drew) (((Keeps.refl (fun _ => False) wr).al _).dr)
      have hlk2 := fun o => HLKK.out (((wr.alloc (.cells #[.string key] 9)).alloc o).drew) ((((Keeps.refl (fun _ => False) wr).al _).al _).dr)
      go_region_held3 (fun W => W.cell? ⟨w.heap.size, 0, none⟩ = some (.pointer (some ⟨R.sb, 7, none⟩)) ∧ W.cell? ⟨wr.heap.size, 0, none⟩ = some (.string key) ∧ W.cell? ⟨R.sb, 8, none⟩ = some (.map (some b))) (go_keep) (fail)
      all_goals
        obtain ⟨i0, hi, hz0, hz1, hz2⟩ := info_parts Tryz.infoStr
        have HK2 : Hid (Keeps (fun _ => False) wr (((wr.alloc (.cells #[.string key] 9)).alloc (.cells #[.slice a2 x.vers.length c2] 185)).drew)) := (((Keeps.refl _ wr).al _).al _).dr
        have BK : Hid ((((wr.alloc (.cells #[.string key] 9)).alloc (.cells #[.slice a2 x.vers.length c2] 185)).drew).heap[wr.heap.size]? = some (.cells #[.string key] 9 (0, 0))) := (Below.heap_alloc _ _ _ (by simp)).trans (heap_new wr _)
        have BA : Hid ((((wr.alloc (.cells #[.string key] 9)).alloc (.cells #[.slice a2 x.vers.length c2] 185)).drew).heap[wr.heap.size + 1]? = some (.cells #[.slice a2 x.vers.length c2] 185 (0, 0))) := by
          have := heap_new (wr.alloc (.cells #[.string key] 9)) (.cells #[.slice a2 x.vers.length c2] 185)
          rw [World.size_alloc] at this
          exact this
        have hnle := needN_le x.vers L
        have hlpos : 0 < x.vers.length := by
          have := HVNE.out
          rw [← HXV.out] at this
          exact List.length_pos_iff.2 this
        have hxb := HHK.out.2
        have hst : staysB R L R.keys[k] = decide (needN x.vers L < x.vers.length) := by unfold staysB; rw [HKEY.out, HXV.out]
        have hlf : (leftL R L k).length ≤ k := by
          unfold leftL
          exact Nat.le_trans (List.length_filter_le _ _) (List.length_take_le _ _)
        clear hlk1 hlk2 HLKK ck cb0 c6
        obtain ⟨nd, hnd⟩ : ∃ nd, needN x.vers L = nd := ⟨_, rfl⟩
        have HNE : Hid (needN (versOf R.hist R.keys[k]) L = nd) := by unfold Hid; rw [HKEY.out, ← HXV.out, hnd]
        rw [hnd] at HND hnle hst
        by_cases hn0 : nd = 0
        · subst hn0
          have HSTAY : Hid (staysB R L R.keys[k] = true) := by unfold Hid; rw [hst]; simpa using hlpos
          clear hst hnd
          generalize hln : x.vers.length = len at *
          go_wp2_with (first
            | (go_at_call 118; go_must (refine (HND.out _ HK2.out).mono ?_; rintro e w3 ⟨rfl, k3⟩; have K3 := hid (HK2.out.tr k3 (fun _ h => h)); have bk3 := new_box (wr := wr) BK.out (by omega) k3 (fun _ h => h.elim); have ba3 := new_box (wr := wr) BA.out (by omega) k3 (fun _ h => h.elim); have ck3 := cell_of_heap bk3 0; have ca3 := cell_of_heap ba3 0; simp at ck3 ca3; have BK3 := hid bk3; clear bk3 ba3 k3))
            | (at_builtin; go_must (refine wpList_append_row _ rfl _ _ 26 rfl 9 i0 (.string ⟨#[]⟩) 1 16 Tryz.underlying26 hi hz0 hz1 hz2 rfl (.slice al (leftL R L k).length cl) (leftL R L k).length _ rfl ((HS.out.row.kept K3.out (fun _ _ h => h)).kept (Keeps.alloc (fun _ => False) _ _) (fun _ _ h => h)) ⟨w3.heap.size, 0, none⟩ 1 1 [.string key] rfl rfl (cell_one_new _ _ _) (by simp [Value.oneCell']) (by unfold maxLen; omega) (by omega) ?_; intro vl' w4 hown' hgrow _ hat; obtain ⟨gl, cl', rfl⟩ := hown'.succ; have S4 := hid ((HS.out.kept K3.out).note hlt2 HSTAY.out rfl (by rw [HKEY.out]; exact hown') hgrow hat); have bk4 := new_box (wr := wr) ((Below.heap_alloc _ (.cells #[.string key] 9) _ (Array.getElem?_eq_some_iff.1 BK3.out).1).trans BK3.out) (by omega) (Keeps.grown hgrow) (fun j e => HS.out.row.lt e.symm); have ck4 := cell_of_heap bk4 0; have cb4 := cell_of_heap S4.out.box 0; simp at ck4 cb4; have BK4 := hid bk4; clear bk4 hown' hgrow hat)))
          have S5 := hid (S4.out.stay hlt2 HNE.out)
          exact ⟨⟨k + 1, z, by omega, by go_num, rfl, by rw [HZ.out, thrownN_succ hlt2, HNE.out]; rfl, _, _, _, S5.out⟩, by simp only [intOf]; omega⟩
        · have hndp : 0 < nd := by omega
          by_cases hnl : nd < x.vers.length
          · have HSTAY : Hid (staysB R L R.keys[k] = true) := by unfold Hid; rw [hst]; simpa using hnl
            obtain ⟨m, hm⟩ : ∃ m, x.vers.length = nd + (m + 1) := ⟨x.vers.length - nd - 1, by omega⟩
            have HLEN := hid hm
            have HLB : Hid (nd + (m + 1) < 1000000000000) := by have := vers_small2 HG.out key; rw [← HXV.out, hm] at this; show _ < _; omega
            have HTS : Hid (∀ W, StoreAt W { R with hist := hist } → Calls Tryz.prog 120 #[.pointer (some ⟨R.sb, 7, none⟩), .string key, .int .i64 (nd : Nat)] W fun e w' => e = .returned (.tuple #[]) ∧ ThrowPost { R with hist := hist } key nd W w') := fun W hW => throw_some { R with hist := hist } key x nd m W hW HX.out HLEN.out HLB.out
            clear hst hnd HLEN HLB
            generalize hln : x.vers.length = len at *
            have hlp2 : (0 : Int) < (nd : Int) := by omega
            have hln2 : (nd : Int) < (len : Int) := by omega
            clear hm
            go_wp2_with (first
              | (go_at_call 118; go_must (refine (HND.out _ HK2.out).mono ?_; rintro e w3 ⟨rfl, k3⟩; have K3 := hid (HK2.out.tr k3 (fun _ h => h)); have bk3 := new_box (wr := wr) BK.out (by omega) k3 (fun _ h => h.elim); have ba3 := new_box (wr := wr) BA.out (by omega) k3 (fun _ h => h.elim); have ck3 := cell_of_heap bk3 0; have ca3 := cell_of_heap ba3 0; simp at ck3 ca3; have BK3 := hid bk3; clear bk3 ba3 k3))
              | (at_builtin; go_must (refine wpList_append_row _ rfl _ _ 26 rfl 9 i0 (.string ⟨#[]⟩) 1 16 Tryz.underlying26 hi hz0 hz1 hz2 rfl (.slice al (leftL R L k).length cl) (leftL R L k).length _ rfl ((HS.out.row.kept K3.out (fun _ _ h => h)).kept (Keeps.alloc (fun _ => False) _ _) (fun _ _ h => h)) ⟨w3.heap.size, 0, none⟩ 1 1 [.string key] rfl rfl (cell_one_new _ _ _) (by simp [Value.oneCell']) (by unfold maxLen; omega) (by omega) ?_; intro vl' w4 hown' hgrow _ hat; obtain ⟨gl, cl', rfl⟩ := hown'.succ; have S4 := hid ((HS.out.kept K3.out).note hlt2 HSTAY.out rfl (by rw [HKEY.out]; exact hown') hgrow hat); have bk4 := new_box (wr := wr) ((Below.heap_alloc _ (.cells #[.string key] 9) _ (Array.getElem?_eq_some_iff.1 BK3.out).1).trans BK3.out) (by omega) (Keeps.grown hgrow) (fun j e => HS.out.row.lt e.symm); have ck4 := cell_of_heap bk4 0; have cb4 := cell_of_heap S4.out.box 0; simp at ck4 cb4; have BK4 := hid bk4; clear bk4 hown' hgrow hat))
              | (go_at_call 66; go_must (refine (undoBy_any cb fs C _ _ _ S4.out.chg (by have := S4.out.len; omega)).mono ?_; rintro e w5 ⟨rfl, C', hc5, k5, hC5⟩; have bk5 := new_box (wr := wr) BK4.out (by omega) k5 (fun j hj => HS.out.chg.lt j hj); have bp5 := (k5.block w.heap.size (Array.getElem?_eq_some_iff.1 S4.out.box).1 (fun hj => by rcases HS.out.cfr _ hj with h1 | h1; (have := HC.out.lt _ h1; omega); omega)).trans S4.out.box; have ck5 := cell_of_heap bk5 0; have cb5 := cell_of_heap bp5 0; simp at ck5 cb5; have HU := hid (And.intro hc5 (And.intro k5 hC5)); have ST5 := hid (S4.out.st.kept k5 (fun j hj hC => S4.out.apart j hC hj)); clear bk5 bp5 hc5 k5 hC5))
              | (go_at_call 120; go_must (refine (HTS.out w5 ST5.out).mono ?_; rintro e w6 ⟨rfl, ht6⟩; have HT6 := hid ht6; clear ht6)))
            obtain ⟨hist', S6⟩ := S4.out.thrown HT.out.rises hlt2 rfl (fun j hj => HC.out.lt j hj) HFL.out HU.out.1 (by simp) HU.out.2.1 HU.out.2.2 (by
              rw [HNE.out, HKEY.out]
              exact HT6.out)
            exact ⟨⟨k + 1, _, by omega, by go_num, rfl, by rw [HZ.out, thrownN_succ hlt2, HNE.out]; omega, _, _, _, S6⟩, by simp only [intOf]; omega⟩
          · have hnl2 : nd = x.vers.length := by omega
            have HSTAY : Hid (staysB R L R.keys[k] = false) := by unfold Hid; rw [hst]; simpa using hnl
            have HTS : Hid (∀ W, StoreAt W { R with hist := hist } → Calls Tryz.prog 120 #[.pointer (some ⟨R.sb, 7, none⟩), .string key, .int .i64 (nd : Nat)] W fun e w' => e = .returned (.tuple #[]) ∧ ThrowPost { R with hist := hist } key nd W w') := fun W hW => by
              have := throw_all { R with hist := hist } key x W hW HX.out
              rwa [← hnl2] at this
            clear hst hnd hnl hnle
            generalize hln : x.vers.length = len at *
            subst hnl2
            have hlp2 : (0 : Int) < (nd : Int) := by omega
            go_wp2_with (first
              | (go_at_call 118; go_must (refine (HND.out _ HK2.out).mono ?_; rintro e w3 ⟨rfl, k3⟩; have K3 := hid (HK2.out.tr k3 (fun _ h => h)); have bk3 := new_box (wr := wr) BK.out (by omega) k3 (fun _ h => h.elim); have ba3 := new_box (wr := wr) BA.out (by omega) k3 (fun _ h => h.elim); have ck3 := cell_of_heap bk3 0; have ca3 := cell_of_heap ba3 0; simp at ck3 ca3; have BK3 := hid bk3; have S3 := hid ((HS.out.kept K3.out).skip hlt2 HSTAY.out); have cb3 := cell_of_heap S3.out.box 0; simp at cb3; clear bk3 ba3 k3))
              | (go_at_call 66; go_must (refine (undoBy_any cb fs C _ _ _ S3.out.chg (by have := S3.out.len; omega)).mono ?_; rintro e w5 ⟨rfl, C', hc5, k5, hC5⟩; have bk5 := new_box (wr := wr) BK3.out (by omega) k5 (fun j hj => HS.out.chg.lt j hj); have bp5 := (k5.block w.heap.size (Array.getElem?_eq_some_iff.1 S3.out.box).1 (fun hj => by rcases HS.out.cfr _ hj with h1 | h1; (have := HC.out.lt _ h1; omega); omega)).trans S3.out.box; have ck5 := cell_of_heap bk5 0; have cb5 := cell_of_heap bp5 0; simp at ck5 cb5; have HU := hid (And.intro hc5 (And.intro k5 hC5)); have ST5 := hid (S3.out.st.kept k5 (fun j hj hC => S3.out.apart j hC hj)); clear bk5 bp5 hc5 k5 hC5))
              | (go_at_call 120; go_must (refine (HTS.out w5 ST5.out).mono ?_; rintro e w6 ⟨rfl, ht6⟩; have HT6 := hid ht6; clear ht6)))
            obtain ⟨hist', S6⟩ := S3.out.thrown HT.out.rises hlt2 rfl (fun j hj => HC.out.lt j hj) HFL.out HU.out.1 (by simp) HU.out.2.1 HU.out.2.2 (by
              rw [HNE.out, HKEY.out]
              exact HT6.out)
            exact ⟨⟨k + 1, _, by omega, by go_num, rfl, by rw [HZ.out, thrownN_succ hlt2, HNE.out]; omega, _, _, _, S6⟩, by simp only [intOf]; omega⟩
    · have e : k = R.keys.length := by omega
      have HSn : Hid (SweepS w R L cb fs0.length C0 w.heap.size R.keys.length R.keys.length hist fs C (.slice al (leftL R L k).length cl) wr) := by
        have := HS.out
        rw [e] at this ⊢
        exact this
      have c5r : wr.cell? ⟨R.sb, 7, none⟩ = some (.slice av R.keys.length cv) := by
        have := HSn.out.st.cell 7
        rw [this]
        simp [topCells, HKV.out]
      have cb0 := cell_of_heap HSn.out.box 0
      simp at cb0
      have hwsz := HSn.out.size
      have hsbC : R.sb ∉ C := fun hC => HSn.out.apart _ hC (by simp [Rep.fp])
      have hpC : w.heap.size ∉ C := fun hC => by
        rcases HSn.out.cfr _ hC with h1 | h1
        · have := HC.out.lt _ h1; omega
        · omega
      have HKE := hid e
      clear HS e HSM hlm
      have HUN := hid (undoBy_any cb fs C (.func 121) #[.pointer (some ⟨wr.heap.size, 0, none⟩), .pointer (some ⟨w.heap.size, 0, none⟩)] (wr.alloc (.cells #[.slice av R.keys.length cv] 26)) (HSn.out.chg.kept (Keeps.alloc (fun _ => False) _ _) (fun _ _ h => h)) (by have := HSn.out.len; omega))
      have hsbw : R.sb < wr.heap.size := HSn.out.st.lt
      go_wp2_with (go_at_call 66; go_must (refine (HUN.out).mono ?_; rintro e w5 ⟨rfl, C', hc5, k5, hC5⟩; have k5' : Keeps (· ∈ C) wr w5 := ((Keeps.refl _ wr).al _).tr k5 (fun _ h => h); have st5 := HSn.out.st.kept k5' (fun j hj hC => HSn.out.apart j hC hj); have cb5 := k5'.cell (p := ⟨w.heap.size, 0, none⟩) cb0 hpC; have c55 := k5'.cell (p := ⟨R.sb, 7, none⟩) c5r hsbC; have f55 : w5.frozen? ⟨R.sb, 7, none⟩ = false := st5.frozen 7; have ST5 := hid st5; have K5 := hid k5'; clear st5 k5 k5' hc5 hC5))
      go_ret
      obtain ⟨n1, n2⟩ := ST5.out.newKeys (vl := .slice al (leftL R L k).length cl) (ks := leftL R L R.keys.length) (HSn.out.row.kept K5.out (fun g hg hC => (HSn.out.own g hg).2.1 hC)) (fun g hg => (HSn.out.own g hg).2.2)
      refine ⟨ret_int (by rw [HZ.out, HKE.out]), hist, _, n1, fun k => ?_, HSn.out.some_, HSn.out.filled, ?_, fun k hk => ?_⟩
      · have := HSn.out.vers k
        rwa [List.take_length] at this
      · refine (HSn.out.keep.trans K5.out (fun k hk hC => ?_)).trans (Keeps.setCell _ _ _) (fun k hk e => .inl ?_)
        · rcases HSn.out.cfr k hC with h1 | h1
          · exact .inr h1
          · omega
        · have e' : k = R.sb := e
          rw [e']
          simp [Rep.fp]
      · rcases n2 k hk with h1 | h1
        · exact HSn.out.ffr k h1
        · exact .inr (HSn.out.own k h1).1

end Go.Proofs.YtfcocbcihhdbkaaGreatDoor
