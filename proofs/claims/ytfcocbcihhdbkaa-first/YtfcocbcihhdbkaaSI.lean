/- become: what a work has put and deleted becomes the next state. -/
import Derived.Test.YtfcocbcihhdbkaaSH
namespace Go.Proofs.Ytfcocbcihhdbkaa
open Go.RowKit

/-- the step that takes one version back -/
def clo (kb : Nat) : Value := .func (.func 70) #[] #[.pointer (some ⟨kb, 0, none⟩), .pointer (some ⟨kb + 1, 0, none⟩)]

/-- How it stands when j keys have been added. -/
structure BecomeAt (w : World) (R : Rep) (cb : Nat) (fs0 : List Value) (C0 : List Nat) (v : Value) (ks : List ByteArray) (ver : ByteArray → Ver) (j : Nat) (wr : World) (Rj : Rep) (kbs C : List Nat) : Prop where
  store : StoreAt wr Rj
  grew : Grew R (ks.take j) ver Rj
  chg : Chg wr cb (fs0 ++ kbs.map clo) C
  len : kbs.length = j
  boxes : ∀ i (h : i < kbs.length), wr.heap[kbs[i]]? = some (.cells #[.pointer (some ⟨R.sb, 0, none⟩)] 23 (0, 0)) ∧ wr.heap[kbs[i] + 1]? = some (.cells #[.string (ks.getD i ByteArray.empty)] 9 (0, 0))
  row : Row wr 9 1 v ks.length (ks.map Value.string)
  keeps : Keeps (fun k => k ∈ R.fp ∨ k ∈ C0) w wr
  fpC : ∀ k ∈ C, k ∉ Rj.fp
  fpE : ∀ k ∈ Rj.fp, k ∈ R.fp ∨ w.heap.size ≤ k
  cE : ∀ k ∈ C, k ∈ C0 ∨ w.heap.size ≤ k
  apart : ∀ k, (v.ownBlock = some k ∨ k ∈ kbs ∨ ∃ b ∈ kbs, k = b + 1) → k ∉ Rj.fp ∧ k ∉ C
  klen : Rj.keys.length ≤ R.keys.length + j

theorem Grew.sb {R Rj : Rep} {ks : List ByteArray} {ver : ByteArray → Ver} (h : Grew R ks ver Rj) : Rj.sb = R.sb ∧ Rj.works = R.works ∧ Rj.now = R.now := by
  have := h.same
  exact ⟨by rw [this], by rw [this], by rw [this]⟩

/-- The blocks behind Add. -/
theorem addFp {R : Rep} {key : ByteArray} {kv' sl' : Value} {keys' : List ByteArray} {b : Nat} {vs' : List Ver} {n : Nat} (c1 : ∀ g, kv'.ownBlock = some g → R.kv.ownBlock = some g ∨ n ≤ g) (c2 : ∀ g, sl'.ownBlock = some g → (slOf R.hist key).ownBlock = some g ∨ n ≤ g) (c3 : R.vm = some b ∨ R.vm = none ∧ n ≤ b) :
    ∀ k ∈ Rep.fp { R with kv := kv', keys := keys', vm := some b, hist := put R.hist key ⟨sl', vs'⟩ }, k ∈ R.fp ∨ n ≤ k := by
  intro k hk
  rw [(fp_perm { R with kv := kv', keys := keys', vm := some b, hist := put R.hist key ⟨sl', vs'⟩ } key).mem_iff] at hk
  rw [(fp_perm R key).mem_iff]
  have e1 : slOf (put R.hist key ⟨sl', vs'⟩) key = sl' := by unfold slOf; rw [look_put_same]; rfl
  have hk' : k ∈ kv'.ownBlock.toList ++ ((slOf (put R.hist key ⟨sl', vs'⟩) key).ownBlock.toList ++ (R.sb :: (R.fpWorks ++ ([b] ++ (del (put R.hist key ⟨sl', vs'⟩) key).flatMap (fun p => p.2.sl.ownBlock.toList))))) := hk
  rw [e1, del_put] at hk'
  simp only [List.mem_append, List.mem_cons, List.not_mem_nil, or_false, Option.mem_toList, Rep.restOf] at hk' ⊢
  rcases hk' with h | h | h | h | h | h
  · rcases c1 k h with h | h
    · exact .inl (.inl h)
    · exact .inr h
  · rcases c2 k h with h | h
    · exact .inl (.inr (.inl h))
    · exact .inr h
  · exact .inl (.inr (.inr (.inl h)))
  · exact .inl (.inr (.inr (.inr (.inl h))))
  · subst h
    rcases c3 with h | ⟨_, h⟩
    · exact .inl (.inr (.inr (.inr (.inr (.inl h)))))
    · exact .inr h
  · exact .inl (.inr (.inr (.inr (.inr (.inr h)))))

/-- One key more. -/
theorem BecomeAt.next {w wr wa wb wc : World} {R Rj : Rep} {cb : Nat} {fs0 : List Value} {C0 C C' kbs : List Nat} {v : Value} {ks : List ByteArray} {ver : ByteArray → Ver} {j q : Nat} {key : ByteArray} (h : BecomeAt w R cb fs0 C0 v ks ver j wr Rj kbs C) (hj : j < ks.length) (hkey : key = ks.getD j ByteArray.empty) (hnew : memB (ks.take j) key = false)
    (ha : Keeps (fun _ => False) wr wa) (hq : wr.heap.size ≤ q) (hsb : wa.heap[q]? = some (.cells #[.pointer (some ⟨R.sb, 0, none⟩)] 23 (0, 0))) (hkb : wa.heap[q + 1]? = some (.cells #[.string key] 9 (0, 0))) (hz : q + 1 < wa.heap.size)
    (hadd : AddPost Rj key (ver key) wa wb) (hkc : Keeps (· ∈ C) wb wc) (hcc : Chg wc cb (fs0 ++ kbs.map clo ++ [clo q]) C') (hC' : ∀ k ∈ C', k ∈ C ∨ wb.heap.size ≤ k) :
    ∃ R', BecomeAt w R cb fs0 C0 v ks ver (j + 1) wc R' (kbs ++ [q]) C' := by
  obtain ⟨kv', b, sl', hS, hkp, c1, c2, c3⟩ := hadd
  have hwz : w.heap.size ≤ wr.heap.size := h.keeps.size
  have hsz := hkp.size
  have hCl := h.chg.lt
  have hfpl := fp_lt h.store
  have hvl : ∀ k, v.ownBlock = some k → k < wr.heap.size := fun k hk => h.row.lt hk
  have hbl : ∀ i (hi : i < kbs.length), kbs[i] + 1 < wr.heap.size := fun i hi => (Array.getElem?_eq_some_iff.1 (h.boxes i hi).2).1
  have hfp' := addFp (R := Rj) (key := key) (keys' := (if memB Rj.keys key then Rj.keys else insAt Rj.keys (below Rj.keys key) key)) (vs' := versOf Rj.hist key ++ [ver key]) c1 c2 c3
  generalize hR' : ({ Rj with kv := kv', keys := (if memB Rj.keys key then Rj.keys else insAt Rj.keys (below Rj.keys key) key), vm := some b, hist := put Rj.hist key ⟨sl', versOf Rj.hist key ++ [ver key]⟩ } : Rep) = R' at hS hfp'
  have hCfp : ∀ k ∈ C, k ∉ R'.fp := fun k hk hf => by
    rcases hfp' k hf with h1 | h1
    · exact h.fpC k hk h1
    · have := hCl k hk; omega
  have htake : ks.take (j + 1) = ks.take j ++ [key] := by
    rw [List.take_succ_eq_append_getElem hj, hkey]
    simp [hj]
  -- a block that is none of the store's and none of the change's
  have hold : ∀ k, k < wr.heap.size → k ∉ Rj.fp → k ∉ C → wc.heap[k]? = wr.heap[k]? := fun k hk h1 h2 =>
    ((hkc.block k (by omega) h2).trans (hkp.block k (by omega) h1)).trans (ha.block k hk (fun h => h))
  have hmem : ∀ k, k ∈ kbs → k + 1 < wr.heap.size := fun k hk => by
    obtain ⟨i, hi, rfl⟩ := List.getElem_of_mem hk
    exact hbl i hi
  refine ⟨R', hS.kept hkc (fun k hk hc => hCfp k hc hk), ?_, ?_, by simp [h.len], ?_, ?_, ?_, ?_, ?_, ?_, ?_, ?_⟩
  · rw [htake, ← hR']
    exact h.grew.snoc h.store hnew kv' sl' b
  · have e : fs0 ++ (kbs ++ [q]).map clo = fs0 ++ kbs.map clo ++ [clo q] := by simp
    rw [e]
    exact hcc
  · intro i hi
    simp only [List.length_append, List.length_cons, List.length_nil] at hi
    by_cases hil : i < kbs.length
    · rw [List.getElem_append_left hil]
      obtain ⟨a1, a2⟩ := h.apart kbs[i] (.inr (.inl (List.getElem_mem _)))
      obtain ⟨a3, a4⟩ := h.apart (kbs[i] + 1) (.inr (.inr ⟨_, List.getElem_mem _, rfl⟩))
      rw [hold _ (by have := hbl i hil; omega) a1 a2, hold _ (hbl i hil) a3 a4]
      exact h.boxes i hil
    · have hie : i = kbs.length := by omega
      subst hie
      rw [List.getElem_append_right (Nat.le_refl _)]
      simp only [Nat.sub_self, List.getElem_cons_zero]
      refine ⟨?_, ?_⟩
      · rw [hkc.block _ (by omega) (fun hc => by have := hCl _ hc; omega), hkp.block _ (by omega) (fun hc => by have := hfpl _ hc; omega), hsb]
      · rw [hkc.block _ (by omega) (fun hc => by have := hCl _ hc; omega), hkp.block _ hz (fun hc => by have := hfpl _ hc; omega), hkb, h.len, hkey]
  · refine ((h.row.kept ha (fun _ _ h => h)).kept hkp (fun g hg hf => ?_)).kept hkc (fun g hg hf => ?_)
    · exact (h.apart g (.inl hg)).1 hf
    · exact (h.apart g (.inl hg)).2 hf
  · refine ((h.keeps.tr ha (fun _ h => h.elim)).trans hkp (fun k hk hf => ?_)).trans hkc (fun k hk hf => ?_)
    · rcases h.fpE k hf with h1 | h1
      · exact .inl h1
      · omega
    · rcases h.cE k hf with h1 | h1
      · exact .inr h1
      · omega
  · intro k hk hf
    rcases hC' k hk with h1 | h1
    · exact hCfp k h1 hf
    · have := fp_lt hS k hf; omega
  · intro k hk
    rcases hfp' k hk with h1 | h1
    · exact h.fpE k h1
    · right; omega
  · intro k hk
    rcases hC' k hk with h1 | h1
    · exact h.cE k h1
    · right; omega
  · intro k hk
    have hkl : k < wr.heap.size ∧ k ∉ Rj.fp ∧ k ∉ C ∨ wr.heap.size ≤ k ∧ k < wa.heap.size := by
      rcases hk with hk | hk | ⟨b, hk, rfl⟩
      · exact .inl ⟨hvl k hk, h.apart _ (.inl hk)⟩
      · rcases List.mem_append.1 hk with hk | hk
        · exact .inl ⟨by have := hmem k hk; omega, h.apart _ (.inr (.inl hk))⟩
        · have e : k = q := by simpa using hk
          exact .inr ⟨by omega, by omega⟩
      · rcases List.mem_append.1 hk with hk | hk
        · exact .inl ⟨hmem b hk, h.apart _ (.inr (.inr ⟨b, hk, rfl⟩))⟩
        · have e : b = q := by simpa using hk
          exact .inr ⟨by omega, by omega⟩
    rcases hkl with ⟨l1, l2, l3⟩ | ⟨l1, l2⟩
    · refine ⟨fun hf => ?_, fun hc => ?_⟩
      · rcases hfp' k hf with h1 | h1
        · exact l2 h1
        · have := ha.size; omega
      · rcases hC' k hc with h1 | h1
        · exact l3 h1
        · have := ha.size; omega
    · refine ⟨fun hf => ?_, fun hc => ?_⟩
      · rcases hfp' _ hf with h1 | h1
        · have := hfpl _ h1; omega
        · omega
      · rcases hC' _ hc with h1 | h1
        · have := hCl _ h1; omega
        · omega
  · have hkl := h.klen
    rw [← hR']
    show (if memB Rj.keys key then Rj.keys else insAt Rj.keys (below Rj.keys key) key).length ≤ _
    split
    · omega
    · rw [insAt_length _ _ _ (below_le _ _)]
      omega

end Go.Proofs.Ytfcocbcihhdbkaa
