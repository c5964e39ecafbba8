/- A version more: how the store lies behind it. -/
import Derived.Test.YtfcocbcihhdbkaaSC
namespace Go.Proofs.Ytfcocbcihhdbkaa
open Go.RowKit

section
variable {α β : Type} [DecidableEq α]

theorem del_put : ∀ (l : List (α × β)) (k : α) (v : β), del (put l k v) k = del l k
  | [], k, v => by simp [put, del]
  | (a, x) :: r, k, v => by
    unfold put
    by_cases e : a = k
    · rw [if_pos e]
      simp [del, e]
    · rw [if_neg e]
      simp [del, e, del_put r k v]

theorem perm_of_look : ∀ {l : List (α × β)} {k : α} {x : β}, look l k = some x → l.Perm ((k, x) :: del l k)
  | (a, y) :: r, k, x, h => by
    unfold look at h
    unfold del
    by_cases e : a = k
    · rw [if_pos e] at h ⊢
      subst e
      cases h
      exact List.Perm.refl _
    · rw [if_neg e] at h ⊢
      exact ((perm_of_look h).cons _).trans (List.Perm.swap _ _ _)

theorem look_put_same (l : List (α × β)) (k : α) (v : β) : look (put l k v) k = some v := by rw [look_put, if_pos rfl]
end

/-- the slice that stands at a key -/
def slOf (hist : List (ByteArray × HsR)) (key : ByteArray) : Value := ((look hist key).map HsR.sl).getD (.slice none 0 0)

/-- the store's blocks but for those of the list of keys and of the key's versions -/
def Rep.restOf (R : Rep) (key : ByteArray) : List Nat := R.sb :: (R.fpWorks ++ (R.vm.toList ++ (del R.hist key).flatMap (fun p => p.2.sl.ownBlock.toList)))

theorem hist_perm (hist : List (ByteArray × HsR)) (key : ByteArray) : (hist.flatMap (fun p => p.2.sl.ownBlock.toList)).Perm ((slOf hist key).ownBlock.toList ++ (del hist key).flatMap (fun p => p.2.sl.ownBlock.toList)) := by
  unfold slOf
  cases h : look hist key with
  | none =>
    rw [del_none h]
    simp [Value.ownBlock]
  | some x =>
    have := (perm_of_look h).flatMap_right (fun p => p.2.sl.ownBlock.toList)
    simpa using this

theorem fp_perm (R : Rep) (key : ByteArray) : R.fp.Perm (R.kv.ownBlock.toList ++ ((slOf R.hist key).ownBlock.toList ++ R.restOf key)) := by
  unfold Rep.fp Rep.fpPast Rep.restOf
  have h1 := hist_perm R.hist key
  have h2 : (R.fpWorks ++ (R.kv.ownBlock.toList ++ R.vm.toList ++ R.hist.flatMap (fun p => p.2.sl.ownBlock.toList))).Perm (R.kv.ownBlock.toList ++ ((slOf R.hist key).ownBlock.toList ++ (R.fpWorks ++ (R.vm.toList ++ (del R.hist key).flatMap (fun p => p.2.sl.ownBlock.toList))))) := by
    refine (List.Perm.append_left _ (List.Perm.append_left _ h1)).trans ?_
    generalize (del R.hist key).flatMap (fun p => p.2.sl.ownBlock.toList) = D
    generalize (slOf R.hist key).ownBlock.toList = B
    generalize R.kv.ownBlock.toList = A
    generalize R.vm.toList = V
    generalize R.fpWorks = F
    -- F ++ (A ++ V ++ (B ++ D)) ~ A ++ (B ++ (F ++ (V ++ D)))
    rw [List.append_assoc]
    refine (List.perm_append_comm_assoc F A _).trans ?_
    refine List.Perm.append_left _ ?_
    refine (List.Perm.append_left F (List.perm_append_comm_assoc V B D)).trans ?_
    exact List.perm_append_comm_assoc F B _
  refine (h2.cons _).trans ?_
  refine (List.perm_middle.symm).trans ?_
  refine List.Perm.append_left _ ?_
  exact List.perm_middle.symm

theorem hist_nodup {w : World} {kv : Value} {keys : List ByteArray} {vm : Option Nat} {hist : List (ByteArray × HsR)} (h : PastAt w kv keys vm hist) : (hist.map (·.1)).Nodup := by
  have := h.histMap.nodup
  simpa [List.map_map, Function.comp_def] using this

/-- A key has one version more. -/
theorem StoreAt.added {w w' : World} {R : Rep} {S : Nat → Prop} (key : ByteArray) {kv' sl' : Value} {keys' : List ByteArray} {b : Nat} {vs' : List Ver} (h : StoreAt w R) (hk : Keeps S w w')
    (hS : ∀ k, k < w.heap.size → S k → k = R.sb ∨ R.kv.ownBlock = some k ∨ R.vm = some k ∨ (slOf R.hist key).ownBlock = some k)
    (ht : w'.heap[R.sb]? = some (.cells (topCells { R with kv := kv', vm := some b }) 66 (0, 0)))
    (hkr : Row w' 9 1 kv' keys'.length (keys'.map Value.string))
    (hm : MapAt Value.string w' b (put (R.hist.map fun p => (p.1, p.2.sl)) key sl'))
    (hsl : Row w' 79 3 sl' vs'.length (vs'.flatMap Ver.cells))
    (c1 : ∀ g, kv'.ownBlock = some g → R.kv.ownBlock = some g ∨ w.heap.size ≤ g) (c2 : ∀ g, sl'.ownBlock = some g → (slOf R.hist key).ownBlock = some g ∨ w.heap.size ≤ g) (c3 : R.vm = some b ∨ R.vm = none ∧ w.heap.size ≤ b)
    (c4 : (kv'.ownBlock.toList ++ sl'.ownBlock.toList ++ [b]).Nodup) :
    StoreAt w' { R with kv := kv', keys := keys', vm := some b, hist := put R.hist key ⟨sl', vs'⟩ } := by
  have hlt := fp_lt h
  have hnd0 := h.nodup
  have hnd := ((fp_perm R key).nodup_iff).1 hnd0
  rw [List.nodup_append, List.nodup_append] at hnd
  obtain ⟨-, ⟨-, hrest, hd2⟩, hd1⟩ := hnd
  have hrlt : ∀ k ∈ R.restOf key, k < w.heap.size := fun k hk1 => hlt k ((fp_perm R key).mem_iff.2 (List.mem_append_right _ (List.mem_append_right _ hk1)))
  have hrs : R.sb ∈ R.restOf key := by simp [Rep.restOf]
  -- what lies elsewhere is kept
  have hns : ∀ k ∈ R.fpWorks, ¬ S k := by
    intro k hk1 hs
    have hkr1 : k ∈ R.restOf key := by simp [Rep.restOf, hk1]
    rcases hS k (hrlt k hkr1) hs with e | e | e | e
    · have := hrest
      simp only [Rep.restOf, List.nodup_cons, List.mem_append, not_or] at this
      exact this.1.1 (e ▸ hk1)
    · exact hd1 k (by simp [e]) k (List.mem_append_right _ hkr1) rfl
    · have := hrest
      simp only [Rep.restOf, List.nodup_cons, List.nodup_append] at this
      exact this.2.2.2 k hk1 k (by simp [e]) rfl
    · exact hd2 k (by simp [e]) k hkr1 rfl
  have hnh : ∀ p ∈ R.hist, p.1 ≠ key → ∀ g, p.2.sl.ownBlock = some g → ¬ S g := by
    intro p hp hpk g hg hs
    have hdel : p ∈ del R.hist key := by
      rw [del_filter _ (hist_nodup h.past)]
      exact List.mem_filter.2 ⟨hp, by simpa using hpk⟩
    have hgd : g ∈ (del R.hist key).flatMap (fun p => p.2.sl.ownBlock.toList) := List.mem_flatMap.2 ⟨p, hdel, by simp [hg]⟩
    have hkr1 : g ∈ R.restOf key := by simp only [Rep.restOf, List.mem_cons, List.mem_append]; exact .inr (.inr (.inr hgd))
    rcases hS g (hrlt g hkr1) hs with e | e | e | e
    · have := hrest
      simp only [Rep.restOf, List.nodup_cons, List.mem_append, not_or] at this
      exact this.1.2.2 (e ▸ hgd)
    · exact hd1 g (by simp [e]) g (List.mem_append_right _ hkr1) rfl
    · have := hrest
      simp only [Rep.restOf, List.nodup_cons, List.nodup_append] at this
      exact this.2.2.1.2.2 g (by simp [e]) g hgd rfl
    · exact hd2 g (by simp [e]) g hkr1 rfl
  have hw := h.works.kept hk hns
  refine ⟨ht, ⟨hw.worksMap, hw.worksEach, hw.pinsMap, hw.copyMap⟩, ⟨hkr, ?_, ?_⟩, ?_⟩
  · show MapAt _ _ _ _
    have e : (put R.hist key ⟨sl', vs'⟩).map (fun p => (p.1, p.2.sl)) = put (R.hist.map fun p => (p.1, p.2.sl)) key sl' := (put_map HsR.sl R.hist key ⟨sl', vs'⟩).symm
    rw [e]
    exact hm
  · intro p hp
    rcases mem_put (hist_nodup h.past) hp with rfl | ⟨hp1, hp2⟩
    · exact hsl
    · exact (h.past.histEach p hp1).kept hk (hnh p hp1 hp2)
  · -- the blocks
    refine ((fp_perm { R with kv := kv', keys := keys', vm := some b, hist := put R.hist key ⟨sl', vs'⟩ } key).nodup_iff).2 ?_
    have e1 : slOf (put R.hist key ⟨sl', vs'⟩) key = sl' := by unfold slOf; rw [look_put_same]; rfl
    have e2 : Rep.restOf { R with kv := kv', keys := keys', vm := some b, hist := put R.hist key ⟨sl', vs'⟩ } key = R.sb :: (R.fpWorks ++ (b :: (del R.hist key).flatMap (fun p => p.2.sl.ownBlock.toList))) := by
      simp only [Rep.restOf, del_put]
      rfl
    show (kv'.ownBlock.toList ++ ((slOf (put R.hist key ⟨sl', vs'⟩) key).ownBlock.toList ++ Rep.restOf { R with kv := kv', keys := keys', vm := some b, hist := put R.hist key ⟨sl', vs'⟩ } key)).Nodup
    rw [e1, e2]
    -- the rest, with b
    have hbase : (R.sb :: (R.fpWorks ++ (b :: (del R.hist key).flatMap (fun p => p.2.sl.ownBlock.toList)))).Nodup ∧ ∀ k, k ∈ R.sb :: (R.fpWorks ++ (b :: (del R.hist key).flatMap (fun p => p.2.sl.ownBlock.toList))) → k ∈ R.restOf key ∨ k = b := by
      constructor
      · rcases c3 with e | ⟨e, hbw⟩
        · have : Rep.restOf R key = R.sb :: (R.fpWorks ++ (b :: (del R.hist key).flatMap (fun p => p.2.sl.ownBlock.toList))) := by simp [Rep.restOf, e]
          rw [← this]
          exact hrest
        · have e0 : Rep.restOf R key = R.sb :: (R.fpWorks ++ (del R.hist key).flatMap (fun p => p.2.sl.ownBlock.toList)) := by simp [Rep.restOf, e]
          have hbn : b ∉ R.restOf key := fun hb => by have := hrlt b hb; omega
          have hpm : (R.sb :: (R.fpWorks ++ (b :: (del R.hist key).flatMap (fun p => p.2.sl.ownBlock.toList)))).Perm (b :: R.restOf key) := by
            rw [e0]
            exact (List.perm_middle.cons _).trans (List.Perm.swap _ _ _)
          rw [hpm.nodup_iff]
          exact List.nodup_cons.2 ⟨hbn, hrest⟩
      · intro k hk1
        simp only [Rep.restOf, List.mem_cons, List.mem_append] at hk1 ⊢
        rcases hk1 with h | h | h | h
        · exact .inl (.inl h)
        · exact .inl (.inr (.inl h))
        · exact .inr h
        · exact .inl (.inr (.inr (.inr h)))
    simp only [List.append_assoc, List.nodup_append] at c4
    obtain ⟨d1, ⟨d2, -, d4⟩, d5⟩ := c4
    refine List.nodup_append.2 ⟨d1, List.nodup_append.2 ⟨d2, hbase.1, ?_⟩, ?_⟩
    · intro a ha c hc e
      subst e
      have ha' : sl'.ownBlock = some a := by simpa using ha
      rcases hbase.2 a hc with hr | rfl
      · rcases c2 a ha' with h2 | h2
        · exact hd2 a (by simp [h2]) a hr rfl
        · have := hrlt a hr; omega
      · exact d4 a ha a (by simp) rfl
    · intro a ha c hc e
      subst e
      have ha' : kv'.ownBlock = some a := by simpa using ha
      rcases List.mem_append.1 hc with hc | hc
      · exact d5 a ha a (List.mem_append_left _ hc) rfl
      · rcases hbase.2 a hc with hr | rfl
        · rcases c1 a ha' with h2 | h2
          · exact hd1 a (by simp [h2]) a (List.mem_append_right _ hr) rfl
          · have := hrlt a hr; omega
        · exact d5 a ha a (List.mem_append_right _ (by simp)) rfl

end Go.Proofs.Ytfcocbcihhdbkaa
