import Derived.Test.YtpagenipflmlfaaGreatDoorM07
import Derived.Deep.LoopGhost
import Derived.Shelf.Slices.Delete
import Derived.Shelf.Slices.Cells

/- What becomes of a store by the versions that a work adds. -/

namespace Go.Proofs.YtpagenipflmlfaaGreatDoor

open Go.RowKit

theorem below_split {ks : List ByteArray} {x : ByteArray} (hr : Rises ks) (hx : x ∉ ks) : (∀ k ∈ ks.take (below ks x), ltK k x = true) ∧ (∀ k ∈ ks.drop (below ks x), ltK x k = true) := by
  constructor
  · intro k hk
    obtain ⟨j, hj, rfl⟩ := List.getElem_of_mem hk
    simp only [List.length_take] at hj
    have hjl : j < ks.length := by omega
    rw [List.getElem_take]
    exact below_lt hjl (by omega)
  · intro k hk
    obtain ⟨j, hj, rfl⟩ := List.getElem_of_mem hk
    simp only [List.length_drop] at hj
    have hjl : below ks x + j < ks.length := by omega
    have h1 := below_ge hr (x := x) hjl (Nat.le_add_right _ _)
    rw [List.getElem_drop]
    cases h2 : ltK x ks[below ks x + j] with
    | true => rfl
    | false =>
      have e := ltK_total h1 h2
      exact absurd (e ▸ List.getElem_mem hjl) hx

theorem rises_insAt {ks : List ByteArray} {x : ByteArray} (hr : Rises ks) (hx : x ∉ ks) : Rises (insAt ks (below ks x) x) := by
  obtain ⟨h1, h2⟩ := below_split hr hx
  have hr' : Rises (ks.take (below ks x) ++ ks.drop (below ks x)) := by rw [List.take_append_drop]; exact hr
  unfold Rises at hr' ⊢
  rw [List.pairwise_append] at hr'
  unfold insAt
  rw [List.pairwise_append]
  refine ⟨hr'.1, List.pairwise_cons.2 ⟨h2, hr'.2.1⟩, ?_⟩
  intro a ha b hb
  rcases List.mem_cons.1 hb with rfl | hb
  · exact h1 a ha
  · exact ltK_trans (h1 a ha) (h2 b hb)

theorem mem_insAt {ks : List ByteArray} {i : Nat} {x k : ByteArray} : k ∈ insAt ks i x ↔ k = x ∨ k ∈ ks := by
  unfold insAt
  rw [List.mem_append, List.mem_cons]
  constructor
  · rintro (h | h | h)
    · exact .inr (List.mem_of_mem_take h)
    · exact .inl h
    · exact .inr (List.mem_of_mem_drop h)
  · rintro (h | h)
    · exact .inr (.inl h)
    · have : k ∈ ks.take i ++ ks.drop i := by rw [List.take_append_drop]; exact h
      rcases List.mem_append.1 this with h | h
      · exact .inl h
      · exact .inr (.inr h)

theorem memB_insAt (ks : List ByteArray) (i : Nat) (x k : ByteArray) : memB (insAt ks i x) k = (decide (x = k) || memB ks k) := by
  rw [Bool.eq_iff_iff, memB_iff, mem_insAt]
  simp only [Bool.or_eq_true, decide_eq_true_eq, memB_iff]
  constructor
  · rintro (h | h)
    · exact .inl h.symm
    · exact .inr h
  · rintro (h | h)
    · exact .inl h.symm
    · exact .inr h

/-- What is tied between the list of keys and the versions. -/
structure Tied (R : Rep) : Prop where
  rises : Rises R.keys
  keys : ∀ k, memB R.keys k = (look R.hist k).isSome
  filled : ∀ p ∈ R.hist, p.2.vers ≠ []

/-- R' is R, but that each key of ks has one version more. -/
structure Grew (R : Rep) (ks : List ByteArray) (ver : ByteArray → Ver) (R' : Rep) : Prop where
  same : R' = { R with kv := R'.kv, keys := R'.keys, vm := R'.vm, hist := R'.hist }
  vers : ∀ k, versOf R'.hist k = if memB ks k then versOf R.hist k ++ [ver k] else versOf R.hist k
  tied : Tied R'

theorem Grew.refl {R : Rep} (h : Tied R) (ver : ByteArray → Ver) : Grew R [] ver R := ⟨rfl, fun k => by simp [memB], h⟩

theorem versOf_put (hist : List (ByteArray × HsR)) (key k : ByteArray) (x : HsR) : versOf (put hist key x) k = if key = k then x.vers else versOf hist k := by
  unfold versOf
  rw [look_put]
  split <;> simp_all

theorem memB_snoc (ks : List ByteArray) (x k : ByteArray) : memB (ks ++ [x]) k = (memB ks k || decide (x = k)) := by
  simp [memB]

/-- One version more. -/
theorem Grew.snoc {R Rj : Rep} {ks : List ByteArray} {ver : ByteArray → Ver} {key : ByteArray} {w : World} (h : Grew R ks ver Rj) (hw : StoreAt w Rj) (hn : memB ks key = false) (kv' sl' : Value) (b : Nat) :
    Grew R (ks ++ [key]) ver { Rj with kv := kv', keys := (if memB Rj.keys key then Rj.keys else insAt Rj.keys (below Rj.keys key) key), vm := some b, hist := put Rj.hist key ⟨sl', versOf Rj.hist key ++ [ver key]⟩ } := by
  have hs := h.same
  refine ⟨?_, fun k => ?_, ⟨?_, fun k => ?_, fun p hp => ?_⟩⟩
  · conv => lhs; rw [hs]
  · show versOf (put Rj.hist key ⟨sl', versOf Rj.hist key ++ [ver key]⟩) k = _
    rw [versOf_put, memB_snoc]
    by_cases e : key = k
    · subst e
      rw [if_pos rfl]
      simp only [decide_true, Bool.or_true, if_true]
      rw [h.vers, hn]
      simp
    · rw [if_neg e, h.vers]
      simp [e]
  · show Rises (if memB Rj.keys key then Rj.keys else insAt Rj.keys (below Rj.keys key) key)
    split
    · exact h.tied.rises
    · rename_i hm
      exact rises_insAt h.tied.rises (fun hx => hm ((memB_iff _ _).2 hx))
  · show memB (if memB Rj.keys key then Rj.keys else insAt Rj.keys (below Rj.keys key) key) k = (look (put Rj.hist key _) k).isSome
    rw [look_put]
    by_cases e : key = k
    · subst e
      rw [if_pos rfl]
      split
      · rename_i hm; simpa using hm
      · rw [memB_insAt]; simp
    · rw [if_neg e, ← h.tied.keys k]
      split
      · rfl
      · rw [memB_insAt]; simp [e]
  · have hp' : p ∈ put Rj.hist key ⟨sl', versOf Rj.hist key ++ [ver key]⟩ := hp
    rcases mem_put (hist_nodup hw.past) hp' with rfl | ⟨h1, _⟩
    · simp
    · exact h.tied.filled p h1

/-- Add, whatever the key has. -/
theorem add_any (R : Rep) (key : ByteArray) (v : Ver) (w : World) (h : StoreAt w R) (t : Tied R) (hl : R.keys.length < 1000000000000) (hv : (versOf R.hist key).length < 1000000000000) :
    Calls Tryz.prog 111 #[.pointer (some ⟨R.sb, 7, none⟩), .string key, .agg #[.int .i64 v.state, .string v.value, .bool v.gone]] w fun e w' => e = .returned (.tuple #[]) ∧ AddPost R key v w w' := by
  cases hx : look R.hist key with
  | some x =>
    have hm : memB R.keys key = true := by rw [t.keys, hx]; rfl
    have hvl : versOf R.hist key = x.vers := by unfold versOf; rw [hx]; rfl
    exact add_known R key v x w h hx hm (by rw [← hvl]; exact hv)
  | none =>
    have hm : memB R.keys key = false := by rw [t.keys, hx]; rfl
    cases hvm : R.vm with
    | some b => exact add_new R key v b w h hvm hx hm t.rises hl
    | none => exact add_first R key v w h hvm hm t.rises hl

end Go.Proofs.YtpagenipflmlfaaGreatDoor

/- become: what a work has put and deleted becomes the next state. -/

namespace Go.Proofs.YtpagenipflmlfaaGreatDoor

open Go.RowKit

/-- the step that takes one version back -/
def clo (kb : Nat) : Value := .func (.func 112) #[] #[.pointer (some ⟨kb, 0, none⟩), .pointer (some ⟨kb + 1, 0, none⟩)]

/-- How it stands when j keys have been added. -/
structure BecomeAt (w : World) (R : Rep) (cb : Nat) (fs0 : List Value) (C0 : List Nat) (v : Value) (ks : List ByteArray) (ver : ByteArray → Ver) (j : Nat) (wr : World) (Rj : Rep) (kbs C : List Nat) : Prop where
  store : StoreAt wr Rj
  grew : Grew R (ks.take j) ver Rj
  chg : Chg wr cb (fs0 ++ kbs.map clo) C
  len : kbs.length = j
  boxes : ∀ i (h : i < kbs.length), wr.heap[kbs[i]]? = some (.cells #[.pointer (some ⟨R.sb, 0, none⟩)] 23 (0, 0)) ∧ wr.heap[kbs[i] + 1]? = some (.cells #[.string (ks.getD i ByteArray.empty)] 9 (0, 0))
  row : Row wr 9 1 v ks.length (ks.map Value.string)
  keeps : Keeps (fun k => k ∈ R.fp ∨ k ∈ C0) w wr
  fpC : ∀ k ∈ C, k ∉ Rj.fp
  fpE : ∀ k ∈ Rj.fp, k ∈ R.fp ∨ w.heap.size ≤ k
  cE : ∀ k ∈ C, k ∈ C0 ∨ w.heap.size ≤ k
  apart : ∀ k, (v.ownBlock = some k ∨ k ∈ kbs ∨ ∃ b ∈ kbs, k = b + 1) → k ∉ Rj.fp ∧ k ∉ C
  klen : Rj.keys.length ≤ R.keys.length + j

theorem Grew.sb {R Rj : Rep} {ks : List ByteArray} {ver : ByteArray → Ver} (h : Grew R ks ver Rj) : Rj.sb = R.sb ∧ Rj.works = R.works ∧ Rj.now = R.now := by
  have := h.same
  exact ⟨by rw [this], by rw [this], by rw [this]⟩

/-- The blocks behind Add. -/
theorem addFp {R : Rep} {key : ByteArray} {kv' sl' : Value} {keys' : List ByteArray} {b : Nat} {vs' : List Ver} {n : Nat} (c1 : ∀ g, kv'.ownBlock = some g → R.kv.ownBlock = some g ∨ n ≤ g) (c2 : ∀ g, sl'.ownBlock = some g → (slOf R.hist key).ownBlock = some g ∨ n ≤ g) (c3 : R.vm = some b ∨ R.vm = none ∧ n ≤ b) :
    ∀ k ∈ Rep.fp { R with kv := kv', keys := keys', vm := some b, hist := put R.hist key ⟨sl', vs'⟩ }, k ∈ R.fp ∨ n ≤ k := by
  intro k hk
  rw [(fp_perm { R with kv := kv', keys := keys', vm := some b, hist := put R.hist key ⟨sl', vs'⟩ } key).mem_iff] at hk
  rw [(fp_perm R key).mem_iff]
  have e1 : slOf (put R.hist key ⟨sl', vs'⟩) key = sl' := by unfold slOf; rw [look_put_same]; rfl
  have hk' : k ∈ kv'.ownBlock.toList ++ ((slOf (put R.hist key ⟨sl', vs'⟩) key).ownBlock.toList ++ (R.sb :: (R.fpWorks ++ ([b] ++ (del (put R.hist key ⟨sl', vs'⟩) key).flatMap (fun p => p.2.sl.ownBlock.toList))))) := hk
  rw [e1, del_put] at hk'
  simp only [List.mem_append, List.mem_cons, List.not_mem_nil, or_false, Option.mem_toList, Rep.restOf] at hk' ⊢
  rcases hk' with h | h | h | h | h | h
  · rcases c1 k h with h | h
    · exact .inl (.inl h)
    · exact .inr h
  · rcases c2 k h with h | h
    · exact .inl (.inr (.inl h))
    · exact .inr h
  · exact .inl (.inr (.inr (.inl h)))
  · exact .inl (.inr (.inr (.inr (.inl h))))
  · subst h
    rcases c3 with h | ⟨_, h⟩
    · exact .inl (.inr (.inr (.inr (.inr (.inl h)))))
    · exact .inr h
  · exact .inl (.inr (.inr (.inr (.inr (.inr h)))))

/-- One key more. -/
theorem BecomeAt.next {w wr wa wb wc : World} {R Rj : Rep} {cb : Nat} {fs0 : List Value} {C0 C C' kbs : List Nat} {v : Value} {ks : List ByteArray} {ver : ByteArray → Ver} {j q : Nat} {key : ByteArray} (h : BecomeAt w R cb fs0 C0 v ks ver j wr Rj kbs C) (hj : j < ks.length) (hkey : key = ks.getD j ByteArray.empty) (hnew : memB (ks.take j) key = false)
    (ha : Keeps (fun _ => False) wr wa) (hq : wr.heap.size ≤ q) (hsb : wa.heap[q]? = some (.cells #[.pointer (some ⟨R.sb, 0, none⟩)] 23 (0, 0))) (hkb : wa.heap[q + 1]? = some (.cells #[.string key] 9 (0, 0))) (hz : q + 1 < wa.heap.size)
    (hadd : AddPost Rj key (ver key) wa wb) (hkc : Keeps (· ∈ C) wb wc) (hcc : Chg wc cb (fs0 ++ kbs.map clo ++ [clo q]) C') (hC' : ∀ k ∈ C', k ∈ C ∨ wb.heap.size ≤ k) :
    ∃ R', BecomeAt w R cb fs0 C0 v ks ver (j + 1) wc R' (kbs ++ [q]) C' := by
  obtain ⟨kv', b, sl', hS, hkp, c1, c2, c3⟩ := hadd
  have hwz : w.heap.size ≤ wr.heap.size := h.keeps.size
  have hsz := hkp.size
  have hCl := h.chg.lt
  have hfpl := fp_lt h.store
  have hvl : ∀ k, v.ownBlock = some k → k < wr.heap.size := fun k hk => h.row.lt hk
  have hbl : ∀ i (hi : i < kbs.length), kbs[i] + 1 < wr.heap.size := fun i hi => (Array.getElem?_eq_some_iff.1 (h.boxes i hi).2).1
  have hfp' := addFp (R := Rj) (key := key) (keys' := (if memB Rj.keys key then Rj.keys else insAt Rj.keys (below Rj.keys key) key)) (vs' := versOf Rj.hist key ++ [ver key]) c1 c2 c3
  generalize hR' : ({ Rj with kv := kv', keys := (if memB Rj.keys key then Rj.keys else insAt Rj.keys (below Rj.keys key) key), vm := some b, hist := put Rj.hist key ⟨sl', versOf Rj.hist key ++ [ver key]⟩ } : Rep) = R' at hS hfp'
  have hCfp : ∀ k ∈ C, k ∉ R'.fp := fun k hk hf => by
    rcases hfp' k hf with h1 | h1
    · exact h.fpC k hk h1
    · have := hCl k hk; omega
  have htake : ks.take (j + 1) = ks.take j ++ [key] := by
    rw [List.take_succ_eq_append_getElem hj, hkey]
    simp [hj]
  -- a block that is none of the store's and none of the change's
  have hold : ∀ k, k < wr.heap.size → k ∉ Rj.fp → k ∉ C → wc.heap[k]? = wr.heap[k]? := fun k hk h1 h2 =>
    ((hkc.block k (by omega) h2).trans (hkp.block k (by omega) h1)).trans (ha.block k hk (fun h => h))
  have hmem : ∀ k, k ∈ kbs → k + 1 < wr.heap.size := fun k hk => by
    obtain ⟨i, hi, rfl⟩ := List.getElem_of_mem hk
    exact hbl i hi
  refine ⟨R', hS.kept hkc (fun k hk hc => hCfp k hc hk), ?_, ?_, by simp [h.len], ?_, ?_, ?_, ?_, ?_, ?_, ?_, ?_⟩
  · rw [htake, ← hR']
    exact h.grew.snoc h.store hnew kv' sl' b
  · have e : fs0 ++ (kbs ++ [q]).map clo = fs0 ++ kbs.map clo ++ [clo q] := by simp
    rw [e]
    exact hcc
  · intro i hi
    simp only [List.length_append, List.length_cons, List.length_nil] at hi
    by_cases hil : i < kbs.length
    · rw [List.getElem_append_left hil]
      obtain ⟨a1, a2⟩ := h.apart kbs[i] (.inr (.inl (List.getElem_mem _)))
      obtain ⟨a3, a4⟩ := h.apart (kbs[i] + 1) (.inr (.inr ⟨_, List.getElem_mem _, rfl⟩))
      rw [hold _ (by have := hbl i hil; omega) a1 a2, hold _ (hbl i hil) a3 a4]
      exact h.boxes i hil
    · have hie : i = kbs.length := by omega
      subst hie
      rw [List.getElem_append_right (Nat.le_refl _)]
      simp only [Nat.sub_self, List.getElem_cons_zero]
      refine ⟨?_, ?_⟩
      · rw [hkc.block _ (by omega) (fun hc => by have := hCl _ hc; omega), hkp.block _ (by omega) (fun hc => by have := hfpl _ hc; omega), hsb]
      · rw [hkc.block _ (by omega) (fun hc => by have := hCl _ hc; omega), hkp.block _ hz (fun hc => by have := hfpl _ hc; omega), hkb, h.len, hkey]
  · refine ((h.row.kept ha (fun _ _ h => h)).kept hkp (fun g hg hf => ?_)).kept hkc (fun g hg hf => ?_)
    · exact (h.apart g (.inl hg)).1 hf
    · exact (h.apart g (.inl hg)).2 hf
  · refine ((h.keeps.tr ha (fun _ h => h.elim)).trans hkp (fun k hk hf => ?_)).trans hkc (fun k hk hf => ?_)
    · rcases h.fpE k hf with h1 | h1
      · exact .inl h1
      · omega
    · rcases h.cE k hf with h1 | h1
      · exact .inr h1
      · omega
  · intro k hk hf
    rcases hC' k hk with h1 | h1
    · exact hCfp k h1 hf
    · have := fp_lt hS k hf; omega
  · intro k hk
    rcases hfp' k hk with h1 | h1
    · exact h.fpE k h1
    · right; omega
  · intro k hk
    rcases hC' k hk with h1 | h1
    · exact h.cE k h1
    · right; omega
  · intro k hk
    have hkl : k < wr.heap.size ∧ k ∉ Rj.fp ∧ k ∉ C ∨ wr.heap.size ≤ k ∧ k < wa.heap.size := by
      rcases hk with hk | hk | ⟨b, hk, rfl⟩
      · exact .inl ⟨hvl k hk, h.apart _ (.inl hk)⟩
      · rcases List.mem_append.1 hk with hk | hk
        · exact .inl ⟨by have := hmem k hk; omega, h.apart _ (.inr (.inl hk))⟩
        · have e : k = q := by simpa using hk
          exact .inr ⟨by omega, by omega⟩
      · rcases List.mem_append.1 hk with hk | hk
        · exact .inl ⟨hmem b hk, h.apart _ (.inr (.inr ⟨b, hk, rfl⟩))⟩
        · have e : b = q := by simpa using hk
          exact .inr ⟨by omega, by omega⟩
    rcases hkl with ⟨l1, l2, l3⟩ | ⟨l1, l2⟩
    · refine ⟨fun hf => ?_, fun hc => ?_⟩
      · rcases hfp' k hf with h1 | h1
        · exact l2 h1
        · have := ha.size; omega
      · rcases hC' k hc with h1 | h1
        · exact l3 h1
        · have := ha.size; omega
    · refine ⟨fun hf => ?_, fun hc => ?_⟩
      · rcases hfp' _ hf with h1 | h1
        · have := hfpl _ h1; omega
        · omega
      · rcases hC' _ hc with h1 | h1
        · have := hCl _ h1; omega
        · omega
  · have hkl := h.klen
    rw [← hR']
    show (if memB Rj.keys key then Rj.keys else insAt Rj.keys (below Rj.keys key) key).length ≤ _
    split
    · omega
    · rw [insAt_length _ _ _ (below_le _ _)]
      omega

end Go.Proofs.YtpagenipflmlfaaGreatDoor

/- become, walked. -/

namespace Go.Proofs.YtpagenipflmlfaaGreatDoor

open Go.RowKit

/-- what becomes of a key that a work has written: its version, with the new state's number -/
def verOf (writes : List (ByteArray × Ver)) (state : Int) (key : ByteArray) : Ver := { ((look writes key).getD Ver.zero) with state := state }

/-- What become leaves: it has found a clash at the j-th key; or all have been added. -/
def BecomePost (w : World) (R : Rep) (x : WkR) (cb : Nat) (fs0 : List Value) (C0 : List Nat) (e : Ending) (w' : World) : Prop :=
  ∃ v ks, Rises ks ∧ ks.Perm (x.writes.map (·.1)) ∧
    ((∃ j Rj kbs C, ∃ h : j < ks.length, x.began < lastOf (versOf R.hist ks[j]) ∧ e = .returned (.int .i64 4) ∧ BecomeAt w R cb fs0 C0 v ks (verOf x.writes (R.now + 1)) j w' Rj kbs C) ∨
     ((∀ k ∈ ks, lastOf (versOf R.hist k) ≤ x.began) ∧ e = .returned (.int .i64 0) ∧ ∃ Rn fs C, StoreAt w' { Rn with now := R.now + 1 } ∧ Grew R ks (verOf x.writes (R.now + 1)) Rn ∧ Chg w' cb fs C ∧ fs.length ≤ fs0.length + ks.length + 1 ∧
        Keeps (fun k => k ∈ R.fp ∨ k ∈ C0) w w' ∧ (∀ k ∈ C, k ∉ Rn.fp) ∧ (∀ k ∈ Rn.fp, k ∈ R.fp ∨ w.heap.size ≤ k) ∧ (∀ k ∈ C, k ∈ C0 ∨ w.heap.size ≤ k)))

theorem Row.form {w : World} {e : TypeId} {size : Nat} {v : Value} {n : Nat} {xs : List Value} (h : Row w e size v n xs) : ∃ a cap, v = .slice a n cap ∧ n ≤ maxLen ∧ (0 < n → ∃ g, a = some ⟨g, 0, none⟩) := by
  rcases h.2 with ⟨rfl, rfl⟩ | ⟨g, cap, cur, rfl, _, h1, h2, _⟩
  · exact ⟨none, 0, rfl, by unfold maxLen; omega, fun h => by omega⟩
  · exact ⟨_, cap, rfl, by omega, fun _ => ⟨g, rfl⟩⟩

/-- Ahead of the first key. -/
theorem becomeAt_start {w w1 : World} {R : Rep} {cb : Nat} {C0 : List Nat} {v : Value} {ks : List ByteArray} {ver : ByteArray → Ver} (h : StoreAt w R) (t : Tied R) (hc : Chg w cb [] C0) (hC : ∀ k ∈ C0, k ∉ R.fp) (hk0 : Keeps (fun _ => False) w w1) (hr : Row w1 9 1 v ks.length (ks.map Value.string))
    (hv : ∀ k, v.ownBlock = some k → w.heap.size ≤ k) : BecomeAt w R cb [] C0 v ks ver 0 w1 R [] C0 := by
  refine ⟨h.kept hk0 (fun _ _ h => h), by simpa using Grew.refl t ver, by simpa using hc.kept hk0 (fun _ _ h => h), rfl, fun i hi => by simp at hi, hr, hk0.mono (fun _ _ h => h.elim), hC, fun k hk => .inl hk, fun k hk => .inl hk, ?_, Nat.le_refl _⟩
  intro k hk'
  have hfl := fp_lt h
  have hcl := hc.lt
  rcases hk' with hk' | hk' | ⟨_, hk', _⟩
  · have := hv k hk'
    exact ⟨fun hf => by have := hfl _ hf; omega, fun hf => by have := hcl _ hf; omega⟩
  · simp at hk'
  · simp at hk'

theorem BecomeAt.kept {w wr wr' : World} {R Rj : Rep} {cb : Nat} {fs0 : List Value} {C0 C kbs : List Nat} {v : Value} {ks : List ByteArray} {ver : ByteArray → Ver} {j : Nat} (h : BecomeAt w R cb fs0 C0 v ks ver j wr Rj kbs C) (hk : Keeps (fun _ => False) wr wr') : BecomeAt w R cb fs0 C0 v ks ver j wr' Rj kbs C :=
  ⟨h.store.kept hk (fun _ _ h => h), h.grew, h.chg.kept hk (fun _ _ h => h), h.len, fun i hi => ⟨(hk.block _ (Array.getElem?_eq_some_iff.1 (h.boxes i hi).1).1 (fun h => h)).trans (h.boxes i hi).1, (hk.block _ (Array.getElem?_eq_some_iff.1 (h.boxes i hi).2).1 (fun h => h)).trans (h.boxes i hi).2⟩, h.row.kept hk (fun _ _ h => h), h.keeps.tr hk (fun _ h => h.elim), h.fpC, h.fpE, h.cE, h.apart, h.klen⟩

theorem take_fresh {ks : List ByteArray} (hr : Rises ks) {j : Nat} (hj : j < ks.length) {key : ByteArray} (hk : ks[j] = key) : memB (ks.take j) key = false := by
  rw [Bool.eq_false_iff]
  intro h
  rw [memB_iff] at h
  obtain ⟨i, hi, e⟩ := List.getElem_of_mem h
  simp only [List.length_take] at hi
  rw [List.getElem_take] at e
  have := List.pairwise_iff_getElem.1 hr i j (by omega) hj (by omega)
  rw [e, hk, ltK_irrefl] at this
  cases this

theorem written_look {R : Rep} {n : Int} {x : WkR} {ks : List ByteArray} {j : Nat} {key : ByteArray} (g : Good R) (hx : (n, x) ∈ R.works) (hp : ks.Perm (x.writes.map (·.1))) (hj : j < ks.length) (hk : ks[j] = key) : ∃ q2 q3, look x.writes key = some ⟨0, q2, q3⟩ := by
  have hm : key ∈ x.writes.map (·.1) := hp.mem_iff.1 (hk ▸ List.getElem_mem hj)
  cases hl : look x.writes key with
  | none =>
    obtain ⟨p, hp1, e⟩ := List.mem_map.1 hm
    exact absurd e (look_none.1 hl p hp1)
  | some v =>
    have := (g.wkeys _ hx _ (look_mem hl)).2.2
    obtain ⟨st, q2, q3⟩ := v
    have hst : st = 0 := this
    subst hst
    exact ⟨q2, q3, rfl⟩

theorem vers_small {R : Rep} (g : Good R) (key : ByteArray) : (versOf R.hist key).length < 1000000000000 := by
  unfold versOf
  cases hl : look R.hist key with
  | none => simp
  | some y =>
    have hm := look_mem hl
    have h2 := rising_length y.vers 0 R.now (g.rising _ hm) (g.states _ hm)
    have h3 := g.now
    simp only [Option.map_some, Option.getD_some]
    omega

theorem AddPost.keeps {R : Rep} {key : ByteArray} {v : Ver} {w w' : World} (h : AddPost R key v w w') : Keeps (· ∈ R.fp) w w' := by
  obtain ⟨_, _, _, _, h, _⟩ := h
  exact h

/-- add's boxes. -/
def saddW (w : World) (sb : Nat) (key : ByteArray) (v : Ver) : World := (((w.alloc (.cells #[.pointer (some ⟨sb, 0, none⟩)] 23)).alloc (.cells #[.string key] 9)).alloc (.cells #[.int .i64 v.state, .string v.value, .bool v.gone] 107))

theorem sadd_heap (w : World) (o1 o2 o3 : Obj) : (((w.alloc o1).alloc o2).alloc o3).heap[w.heap.size]? = some o1 ∧ (((w.alloc o1).alloc o2).alloc o3).heap[w.heap.size + 1]? = some o2 ∧ (((w.alloc o1).alloc o2).alloc o3).heap[w.heap.size + 2]? = some o3 := by
  refine ⟨?_, ?_, ?_⟩
  · rw [Below.heap_alloc _ _ _ (by simp; omega), Below.heap_alloc _ _ _ (by simp)]
    exact heap_new w o1
  · rw [Below.heap_alloc _ _ _ (by simp)]
    have := heap_new (w.alloc o1) o2
    simpa using this
  · have := heap_new ((w.alloc o1).alloc o2) o3
    simpa using this

/-- The boxes of add behind Add. -/
theorem sadd_boxes {w W wb : World} {R : Rep} {x1 x2 y1 y2 y3 : Value} {t1 t2 t3 : TypeId} (hS : StoreAt w R) (hW : Keeps (fun _ => False) (((w.alloc (.cells #[x1] t1)).alloc (.cells #[x2] t2)).alloc (.cells #[y1, y2, y3] t3)) W)
    (hk : Keeps (· ∈ R.fp) W wb) :
    wb.cell? ⟨w.heap.size, 0, none⟩ = some x1 ∧ wb.cell? ⟨w.heap.size + 1, 0, none⟩ = some x2 ∧ wb.cell? ⟨w.heap.size + 1 + 1, 0, none⟩ = some y1 ∧ wb.cell? ⟨w.heap.size + 1 + 1, 1, none⟩ = some y2 ∧ wb.cell? ⟨w.heap.size + 1 + 1, 2, none⟩ = some y3 := by
  have hfl := fp_lt hS
  obtain ⟨e1, e2, e3⟩ := sadd_heap w (.cells #[x1] t1) (.cells #[x2] t2) (.cells #[y1, y2, y3] t3)
  have hz := hW.size
  simp at hz
  have g : ∀ k o, w.heap.size ≤ k → k < w.heap.size + 3 → (((w.alloc (.cells #[x1] t1)).alloc (.cells #[x2] t2)).alloc (.cells #[y1, y2, y3] t3)).heap[k]? = some o → wb.heap[k]? = some o := fun k o h1 h2 h3 => by
    rw [hk.block k (by omega) (fun e => by have := hfl _ e; omega), hW.block k (by simp; omega) (fun h => h)]
    exact h3
  exact ⟨cell_of_heap (g _ _ (by omega) (by omega) e1) 0, cell_of_heap (g _ _ (by omega) (by omega) e2) 0, cell_of_heap (g _ _ (by omega) (by omega) e3) 0, cell_of_heap (g _ _ (by omega) (by omega) e3) 1, cell_of_heap (g _ _ (by omega) (by omega) e3) 2⟩

/-- What add leaves. -/
def SAddPost (R : Rep) (key : ByteArray) (v : Ver) (cb : Nat) (fs : List Value) (C : List Nat) (w w' : World) : Prop :=
  ∃ wa wb C', Keeps (fun _ => False) w wa ∧ wa.heap[w.heap.size]? = some (.cells #[.pointer (some ⟨R.sb, 0, none⟩)] 23 (0, 0)) ∧ wa.heap[w.heap.size + 1]? = some (.cells #[.string key] 9 (0, 0)) ∧ w.heap.size + 1 < wa.heap.size ∧
    AddPost R key v wa wb ∧ Keeps (· ∈ C) wb w' ∧ Chg w' cb (fs ++ [clo w.heap.size]) C' ∧ ∀ k ∈ C', k ∈ C ∨ wb.heap.size ≤ k

theorem sadd_post {w W wb w' : World} {R : Rep} {key : ByteArray} {v : Ver} {cb : Nat} {fs : List Value} {C C' : List Nat} (hW : Keeps (fun _ => False) (saddW w R.sb key v) W) (hadd : AddPost R key v W wb) (hk : Keeps (· ∈ C) wb w') (hc : Chg w' cb (fs ++ [clo w.heap.size]) C') (hC : ∀ k ∈ C', k ∈ C ∨ wb.heap.size ≤ k) : SAddPost R key v cb fs C w w' := by
  obtain ⟨e1, e2, e3⟩ := sadd_heap w (.cells #[.pointer (some ⟨R.sb, 0, none⟩)] 23) (.cells #[.string key] 9) (.cells #[.int .i64 v.state, .string v.value, .bool v.gone] 107)
  have hz := hW.size
  simp [saddW] at hz
  have h0 : Keeps (fun _ => False) w (saddW w R.sb key v) := (((Keeps.refl (fun _ => False) w).al _).al _).al _
  refine ⟨W, wb, C', h0.tr hW (fun _ h => h), ?_, ?_, by omega, hadd, hk, hc, hC⟩
  · rw [hW.block _ (by simp [saddW]; omega) (fun h => h)]
    exact e1
  · rw [hW.block _ (by simp [saddW]) (fun h => h)]
    exact e2

set_option maxRecDepth 100000 in
set_option maxHeartbeats 1000000 in
/-- add: a version more, and the step that takes it back -/
theorem sadd_any (R : Rep) (key : ByteArray) (st : Int) (q2 : ByteArray) (q3 : Bool) (cb : Nat) (fs : List Value) (C : List Nat) (w : World) (h : StoreAt w R) (t : Tied R) (hkl : R.keys.length < 1000000000000) (hvl : (versOf R.hist key).length < 1000000000000) (hc : Chg w cb fs C) (hC : ∀ k ∈ C, k ∉ R.fp) (hl : fs.length < 1000000000000) :
    Calls Tryz.prog 74 #[.pointer (some ⟨R.sb, 0, none⟩), .pointer (some ⟨cb, 0, none⟩), .string key, .agg #[.int .i64 st, .string q2, .bool q3]] w fun e w' => e = .returned (.tuple #[]) ∧ SAddPost R key ⟨st, q2, q3⟩ cb fs C w w' := by
  have HADD : Hid (∀ W, Keeps (fun _ => False) (saddW w R.sb key ⟨st, q2, q3⟩) W → Calls Tryz.prog 111 #[.pointer (some ⟨R.sb, 7, none⟩), .string key, .agg #[.int .i64 st, .string q2, .bool q3]] W fun e w' => e = .returned (.tuple #[]) ∧ AddPost R key ⟨st, q2, q3⟩ W w') := fun W hW =>
    add_any R key ⟨st, q2, q3⟩ W (h.kept (((((Keeps.refl (fun _ => False) w).al _).al _).al _).tr hW (fun _ h => h)) (fun _ _ h => h)) t hkl hvl
  have HST : Hid (StoreAt w R) := h
  have HC : Hid (Chg w cb fs C) := hc
  have HCF : Hid (∀ k ∈ C, k ∉ R.fp) := hC
  have HL : Hid (fs.length < 1000000000000) := hl
  have hlt := h.lt
  have hmf : ∀ (fn : Fn) (first cap : Array Value) (w : World), (Instr.makeFunc fn first cap).run Tryz.prog w = .ok (.func fn first cap) w := fun _ _ _ _ => rfl
  clear h t hkl hvl hc hC hl
  go_enter Tryz.func74, Tryz.ntmps74
  go_wp2_with fail
  obtain ⟨-, -, hv2, hv3, hv4⟩ := sadd_boxes (wb := (saddW w R.sb key ⟨st, q2, q3⟩).drew) HST.out (Keeps.drew (fun _ => False) (saddW w R.sb key ⟨st, q2, q3⟩)) (Keeps.refl _ _)
  simp only [saddW] at hv2 hv3 hv4
  go_region_held3 (fun W => W.cell? ⟨w.heap.size, 0, none⟩ = some (.pointer (some ⟨R.sb, 0, none⟩)) ∧ W.cell? ⟨w.heap.size + 1, 0, none⟩ = some (.string key) ∧ W.cell? ⟨w.heap.size + 1 + 1, 0, none⟩ = some (.int .i64 st) ∧ W.cell? ⟨w.heap.size + 1 + 1, 1, none⟩ = some (.string q2) ∧ W.cell? ⟨w.heap.size + 1 + 1, 2, none⟩ = some (.bool q3)) (go_keep) (first | (go_at_call 111; refine (HADD.out _ ((Keeps.refl (fun _ => False) _).dr)).mono ?_; rintro e wb ⟨rfl, hadd⟩; obtain ⟨hbx0, hbx1, hbx2, hbx3, hbx4⟩ := sadd_boxes HST.out ((Keeps.refl (fun _ => False) _).dr) hadd.keeps; have HAP := hid hadd; clear hadd))
  have hchb : Chg wb cb fs C := HC.out.kept ((((((Keeps.refl (fun k => k ∈ R.fp) w).al _).al _).al _).dr).tr HAP.out.keeps (fun _ h => h)) (fun k hk hf => HCF.out k hk hf)
  have HUB := undoBy_any cb fs C (.func 112) #[.pointer (some ⟨w.heap.size, 0, none⟩), .pointer (some ⟨w.heap.size + 1, 0, none⟩)] wb hchb HL.out
  clear hchb
  go_wp2_with (go_at_call 53; go_must (refine HUB.mono ?_; rintro e wc ⟨rfl, C', hcc, hkc, hC'⟩))
  go_end0
  exact ⟨rfl, sadd_post ((Keeps.refl (fun _ => False) _).dr) HAP.out hkc hcc hC'⟩

theorem become_end {w wr wc : World} {R Rj : Rep} {x : WkR} {cb : Nat} {fs' : List Value} {C0 C C' kbs : List Nat} {v : Value} {ks : List ByteArray} (hris : Rises ks) (hperm : ks.Perm (x.writes.map (·.1)))
    (hlast : ∀ i' (h : i' < ks.length), i' < ks.length → lastOf (versOf R.hist ks[i']) ≤ x.began) (h : BecomeAt w R cb [] C0 v ks (verOf x.writes (R.now + 1)) ks.length wr Rj kbs C) (hfl : fs'.length = ks.length + 1) (hcc : Chg wc cb fs' C')
    (hkc : Keeps (fun k => k ∈ C ∨ k = R.sb) wr wc) (hC' : ∀ k ∈ C', k ∈ C ∨ wr.heap.size ≤ k) (hhp : wc.heap[R.sb]? = (wr.setCell ⟨R.sb, 0, none⟩ (.int .i64 (R.now + 1))).heap[R.sb]?) :
    BecomePost w R x cb [] C0 (.returned (.int .i64 0)) wc := by
  obtain ⟨hsb, hwks, hnw⟩ := h.grew.sb
  have hfl' := fp_lt h.store
  have hnd := h.store.nodup
  have htop : wc.heap[Rj.sb]? = some (.cells (topCells { Rj with now := R.now + 1 }) 65 (0, 0)) := by
    have := h.store.set (R' := { Rj with now := R.now + 1 }) rfl (i := 0) (v := .int .i64 (R.now + 1)) rfl
    rw [hsb] at this ⊢
    rw [hhp]
    exact this
  have hst : StoreAt wc { Rj with now := R.now + 1 } := h.store.nums hkc (fun k hk hb => by
    rcases hb with hb | rfl
    · exact h.fpC k hb (by simp only [Rep.fp, List.mem_cons]; exact .inr hk)
    · rw [← hsb] at hk
      exact (List.nodup_cons.1 hnd).1 hk) (R.now + 1) Rj.floor Rj.begun htop
  refine ⟨v, ks, hris, hperm, .inr ⟨fun k hk => ?_, rfl, Rj, fs', C', hst, by have := h.grew; rwa [List.take_length] at this, hcc, by simp; omega, ?_, ?_, h.fpE, ?_⟩⟩
  · obtain ⟨i, hi, rfl⟩ := List.getElem_of_mem hk
    exact hlast i hi hi
  · refine h.keeps.trans hkc (fun i hi hb => ?_)
    rcases hb with hb | rfl
    · rcases h.cE i hb with h1 | h1
      · exact .inr h1
      · omega
    · exact .inl (by simp [Rep.fp])
  · intro k hk hf
    rcases hC' k hk with h1 | h1
    · exact h.fpC k h1 hf
    · have := hfl' k hf; omega
  · intro k hk
    have hwz : w.heap.size ≤ wr.heap.size := h.keeps.size
    rcases hC' k hk with h1 | h1
    · exact h.cE k h1
    · exact .inr (by omega)

set_option maxRecDepth 100000 in
set_option maxHeartbeats 2000000 in
theorem become_any (R : Rep) (n : Int) (x : WkR) (cb : Nat) (C0 : List Nat) (w : World) (h : StoreAt w R) (g : Good R) (t : Tied R) (hx : (n, x) ∈ R.works) (hc : Chg w cb [] C0) (hC : ∀ k ∈ C0, k ∉ R.fp) (hkl : R.keys.length < 900000000000) :
    Calls Tryz.prog 49 #[.pointer (some ⟨R.sb, 0, none⟩), .pointer (some ⟨cb, 0, none⟩), workPtr x] w (BecomePost w R x cb [] C0) := by
  obtain ⟨c0, c1, hM⟩ := h.works.work hx
  have hnow := g.now
  have h30 := g.writes30 _ hx
  have hwk := g.wkeys _ hx
  have n0 : w.cell? ⟨R.sb, 0, none⟩ = some (.int .i64 R.now) := h.cell 0
  have hlt := h.lt
  have hkeys := keys_core x.blk x.mb (x.writes.map fun q => (q.1, q.2.val)) w c1 hM (fun p hp => by
    obtain ⟨q, hq, rfl⟩ := List.mem_map.1 hp
    have := (hwk q hq).1
    simp [keyB] at this
    unfold maxLen
    show q.1.size ≤ _
    omega) (by simp; simp at h30; omega)
  have hpm : (x.writes.map fun q => (q.1, q.2.val)).map (·.1) = x.writes.map (·.1) := by simp [List.map_map, Function.comp_def]
  rw [hpm] at hkeys
  have HST := hid h
  have HG := hid g
  have HT := hid t
  have HX := hid hx
  have HC := hid hc
  have HCF := hid hC
  have HKL := hid hkl
  obtain ⟨hnow1, hnow2⟩ := hnow
  unfold workPtr
  clear h g t hx hc hC hkl hM c0 c1 hwk h30 hpm
  go_enter Tryz.func49, Tryz.ntmps49
  go_wp2_with (go_at_call 58; go_must (refine hkeys.mono ?_; rintro e w1 ⟨v, ks, rfl, hrow, hris, hperm, hk1, hvb⟩; obtain ⟨av, capv, rfl, hnl, hav⟩ := hrow.form))
  have hkn : ks.length ≤ 30 := by
    have h1 := hperm.length_eq
    have h2 := HG.out.writes30 _ HX.out
    simp at h1 h2
    omega
  have hst : BecomeAt w R cb [] C0 (.slice av ks.length capv) ks (verOf x.writes (R.now + 1)) 0 w1 R [] C0 := becomeAt_start HST.out HT.out HC.out HCF.out hk1 hrow (fun k hk => Nat.le_of_lt (hvb k hk))
  have HRIS := hid hris
  have HPERM := hid hperm
  clear hrow hris hperm hk1 hkeys n0 hvb
  go_loopw [19] (fun i wr => ∃ (j : Nat) (Rj : Rep) (kbs C : List Nat), j ≤ ks.length ∧ i = .int .i64 j ∧ (∀ i' (h : i' < ks.length), i' < j → lastOf (versOf R.hist ks[i']) ≤ x.began) ∧ BecomeAt w R cb [] C0 (.slice av ks.length capv) ks (verOf x.writes (R.now + 1)) j wr Rj kbs C) (fun i _ => ks.length - (intOf i).toNat)
  case atStart => exact ⟨0, R, [], C0, Nat.zero_le _, rfl, fun i' _ h => by omega, hst⟩
  case round =>
    obtain ⟨j, Rj, kbs, C, hj, rfl, hlast, hB⟩ := hrel
    have HB := hid hB
    have HLAST := hid hlast
    clear hst hB hlast
    by_cases hjn : j < ks.length
    · obtain ⟨g, rfl⟩ := hav (by omega)
      have hcell : wr.cell? ⟨g, j, none⟩ = some (.string ks[j]) := by
        rw [HB.out.row.cellAt j (by omega)]
        simp [hjn]
      obtain ⟨key, hkey⟩ : ∃ key, ks[j] = key := ⟨_, rfl⟩
      rw [hkey] at hcell
      obtain ⟨hsb, hwks, hnw⟩ := HB.out.grew.sb
      have hnin : memB (ks.take j) key = false := take_fresh HRIS.out hjn hkey
      have hvv : versOf Rj.hist key = versOf R.hist key := by rw [HB.out.grew.vers, hnin]; rfl
      have hxj : (n, x) ∈ Rj.works := by rw [hwks]; exact HX.out
      obtain ⟨e0, e1, eM⟩ := HB.out.store.works.work hxj
      have hxl : x.blk < wr.heap.size := World.block_lt_of_cell? _ _ e0
      have HLC : Hid (∀ W, Keeps (fun _ => False) wr W → Calls Tryz.prog 85 #[.pointer (some ⟨R.sb, 7, none⟩), .string key] W fun e w' => e = .returned (.int .i64 (lastOf (versOf R.hist key))) ∧ w' = W) := fun W hk => by
        have hS := HB.out.store.kept hk (fun _ _ h => h)
        have := last_core Rj.sb key Rj.vm _ _ (versOf Rj.hist key) W (hS.cell 8) hS.past.histMap rfl (hS.past.slice key) (by rw [hvv]; exact (HG.out.vers key).2)
        rw [hsb, hvv] at this
        exact this
      have HVV := hid hvv
      have HSBJ := hid hsb
      have HNIN := hid hnin
      have HEM := hid eM
      have HKEY := hid hkey
      clear hvv hsb hnw hnin eM hkey hwks hxj
      by_cases hcl : x.began < lastOf (versOf R.hist key)
      · obtain ⟨lv, hlv⟩ : ∃ lv, lastOf (versOf R.hist key) = lv := ⟨_, rfl⟩
        rw [hlv] at HLC hcl
        have HLV := hid hlv
        clear hlv
        go_wp2_with fail
        go_region_held3 (fun W => W.cell? ⟨x.blk, 0, none⟩ = some (.int .i64 x.began)) (go_keep) (first | (go_at_call 85; refine (HLC.out _ ((Keeps.refl (fun _ => False) wr).dr)).mono ?_; rintro e w' ⟨rfl, rfl⟩))
        go_wp2
        go_ret
        refine ⟨.slice (some ⟨g, 0, none⟩) ks.length capv, ks, HRIS.out, HPERM.out, .inl ⟨j, Rj, kbs, C, hjn, ?_, rfl, HB.out.kept ((Keeps.refl (fun _ => False) wr).dr)⟩⟩
        rw [HKEY.out, HLV.out]
        exact hcl
      · have hcl' : lastOf (versOf R.hist key) ≤ x.began := by omega
        have HCL := hid hcl'
        obtain ⟨lv, hlv⟩ : ∃ lv, lastOf (versOf R.hist key) = lv := ⟨_, rfl⟩
        rw [hlv] at HLC hcl' hcl
        clear hlv
        obtain ⟨q2, q3, hq⟩ : ∃ q2 q3, look x.writes key = some ⟨0, q2, q3⟩ := written_look HG.out HX.out HPERM.out hjn HKEY.out
        have hver : verOf x.writes (R.now + 1) key = ⟨R.now + 1, q2, q3⟩ := by unfold verOf; rw [hq]; rfl
        have HVER := hid hver
        have HLKQ : Hid ((look (x.writes.map fun q => (q.1, q.2.val)) key).getD (.agg #[.int .i64 0, .string ByteArray.empty, .bool false]) = .agg #[.int .i64 0, .string q2, .bool q3]) := by
          rw [look_map, hq]
          exact rfl
        have HADD : Hid (∀ W, Keeps (fun _ => False) wr W → Calls Tryz.prog 74 #[.pointer (some ⟨R.sb, 0, none⟩), .pointer (some ⟨cb, 0, none⟩), .string key, .agg #[.int .i64 (R.now + 1), .string q2, .bool q3]] W fun e w' => e = .returned (.tuple #[]) ∧ SAddPost Rj key ⟨R.now + 1, q2, q3⟩ cb ([] ++ kbs.map clo) C W w') := fun W hk => by
          have := sadd_any Rj key (R.now + 1) q2 q3 cb ([] ++ kbs.map clo) C W (HB.out.store.kept hk (fun _ _ h => h)) HB.out.grew.tied (by have := HB.out.klen; have := HKL.out; omega) (by rw [HVV.out]; exact vers_small HG.out key) (HB.out.chg.kept hk (fun _ _ h => h)) HB.out.fpC (by have := HB.out.len; simp; omega)
          rw [HSBJ.out] at this
          exact this
        clear hq hver
        go_wp2_with fail
        go_region_held3 (fun W => W.cell? ⟨x.blk, 0, none⟩ = some (.int .i64 x.began)) (go_keep) (first | (go_at_call 85; refine (HLC.out _ ((Keeps.refl (fun _ => False) wr).dr)).mono ?_; rintro e w' ⟨rfl, rfl⟩))
        go_wp2_with (first
          | (at_lookup; go_must (refine wpList_lookup_at _ rfl _ _ 102 rfl 9 107 strKeyOk Tryz.underlying102 Tryz.underlying9 _ (Tryz.zeroVersion _) x.mb rfl key rfl _ (HEM.out.kept ((Keeps.refl (fun _ => False) wr).dr) (fun h => h)) ?_; rw [HLKQ.out]))
          | (go_at_call 74; go_must (refine (HADD.out _ (((Keeps.refl (fun _ => False) wr).al _).dr)).mono ?_; rintro e wc ⟨rfl, hs⟩)))
        obtain ⟨wa, wb, C', a1, a2, a3, a4, a5, a6, a7, a8⟩ := hs
        have k1 : Keeps (fun _ => False) wr _ := ((Keeps.refl (fun _ => False) wr).al (.cells #[.int .i64 (R.now + 1), .string q2, .bool q3] 107)).dr
        obtain ⟨R', hN⟩ := HB.out.next (key := key) hjn (by rw [← HKEY.out]; simp [hjn]) HNIN.out (k1.tr a1 (fun _ h => h)) k1.size (by rw [← HSBJ.out]; exact a2) a3 a4 (by rw [HVER.out]; exact a5) a6 a7 a8
        refine ⟨⟨j + 1, R', _, C', by omega, by simp, fun i' h hi => ?_, hN⟩, ?_⟩
        · rcases Nat.lt_or_ge i' j with h1 | h1
          · exact HLAST.out i' h h1
          · obtain rfl : i' = j := by omega
            rw [HKEY.out]
            exact HCL.out
        · simp only [intOf]
          omega
    · obtain rfl : j = ks.length := by omega
      obtain ⟨hsb, hwks, hnw⟩ := HB.out.grew.sb
      have hsC : R.sb ∉ C := fun hf => HB.out.fpC _ hf (by rw [← hsb]; simp [Rep.fp])
      have hlen : ([] ++ kbs.map clo).length = ks.length := by have := HB.out.len; simp [this]
      have hc0 : wr.cell? ⟨R.sb, 0, none⟩ = some (.int .i64 R.now) := by
        have := HB.out.store.cell 0
        rw [hsb] at this
        rw [this]
        simp [topCells, hnw]
      have hf0 : wr.frozen? ⟨R.sb, 0, none⟩ = false := by rw [← hsb]; exact HB.out.store.frozen 0
      have HAS := assign_int cb _ C R.sb 0 R.now (R.now + 1) wr HB.out.chg hc0 hf0 hsC (by rw [hlen]; omega)
      rw [hlen] at HAS
      clear hsC hlen hc0 hf0 hsb hwks hnw
      go_wp2_with (go_at_call 43; go_must (refine HAS.mono ?_; rintro e wc ⟨rfl, fs', C', hfl, hcc, hkc, hC', hhp⟩))
      go_ret
      exact become_end HRIS.out HPERM.out HLAST.out HB.out hfl hcc hkc hC' hhp

end Go.Proofs.YtpagenipflmlfaaGreatDoor

/- The library's Delete, of one key. -/

namespace Go.Proofs

open Go.Shelf

namespace YtpagenipflmlfaaGreatDoor

open Go.RowKit

theorem strsOf_keys (ks : List ByteArray) : (Lib.strsOf (fun j => ks.getD j ByteArray.empty) ks.length).map encStr = ks.map Value.string := by
  apply List.ext_getElem
  · simp [Lib.strsOf]
  · intro i h1 h2
    simp at h2
    simp [Lib.strsOf, h2, encStr]

theorem delete_key (v : Value) (ks : List ByteArray) (i : Nat) (w : World) (h : Row w 9 1 v ks.length (ks.map Value.string)) (hi : i < ks.length) :
    Calls Tryz.prog 163 #[v, .int .i64 i, .int .i64 ((i : Int) + 1)] w fun e w' => ∃ g cap, v.ownBlock = some g ∧ e = .returned (.slice (some ⟨g, 0, none⟩) (ks.length - 1) cap) ∧ Row w' 9 1 (.slice (some ⟨g, 0, none⟩) (ks.length - 1) cap) (ks.length - 1) ((ks.eraseIdx i).map Value.string) ∧ Keeps (fun k => v.ownBlock = some k) w w' := by
  have hlen2 : ((ks.eraseIdx i).map Value.string).length = (ks.length - 1) * 1 := by rw [List.length_map, List.length_eraseIdx_of_lt hi]; omega
  rcases h.2 with ⟨rfl, h0⟩ | ⟨g, cap, cur, rfl, hg, hnc, hcm, hcs, htake⟩
  · omega
  · have hcur : cap ≤ cur.size := by simpa using hcs
    have hcells : ∀ j, j < ks.length → w.cell? ⟨g, 0 + j, none⟩ = some (.string ((fun j => ks.getD j ByteArray.empty) j)) := by
      intro j hj
      rw [Nat.zero_add, h.cellAt j (by omega)]
      simp [hj]
    have htake' : cur.toList.take ks.length = ks.map Value.string := by simpa using htake
    refine (Any.slices_Delete_string_cells Tryz.laysNm224 g 0 ks.length cap i (i + 1) (fun j => ks.getD j ByteArray.empty) w hnc (by unfold maxLen at hcm; omega) (by omega) (by omega) hcells (fun j _ => frozen_of_heap hg _)).mono ?_
    rintro e w' ⟨rfl, q, rfl⟩
    have e0 : ks.length - (i + 1 - i) = ks.length - 1 := by omega
    rw [e0]
    have eL : ((Lib.strsOf (fun j => ks.getD j ByteArray.empty) ks.length).take i ++ (Lib.strsOf (fun j => ks.getD j ByteArray.empty) ks.length).drop (i + 1) ++ List.replicate (i + 1 - i) []).map encStr = (ks.eraseIdx i).map Value.string ++ [Value.string ⟨#[]⟩] := by
      rw [show i + 1 - i = 1 from by omega, List.eraseIdx_eq_take_drop_succ]
      simp only [List.map_append, List.map_take, List.map_drop, strsOf_keys]
      rfl
    rw [eL]
    have hg1 : (w.drewN q).heap[g]? = some (.cells cur 9 (0, 0)) := hg
    have hLl : ((ks.eraseIdx i).map Value.string ++ [Value.string ⟨#[]⟩]).length = ks.length := by rw [List.length_append, hlen2]; simp; omega
    have hkd : Keeps (· = g) w (w.drewN q) := ⟨rfl, rfl, rfl, Nat.le_refl _, fun _ _ _ => rfl⟩
    refine ⟨g, cap, rfl, rfl, ⟨hlen2, .inr ⟨g, cap, _, rfl, heap_setCells _ _ g 0 cur hg1, by omega, hcm, by rw [putL_size]; exact hcs, ?_⟩⟩, (hkd.tr (Keeps.setCells _ _ _ _) (fun _ h => h)).mono (fun k _ hk => by have hk' : k = g := hk; simp [Value.ownBlock, hk'])⟩
    rw [putL_toList _ _ _ (by rw [hLl]; omega)]
    simp only [List.take_zero, List.nil_append]
    rw [List.append_assoc, List.take_left' hlen2]

end YtpagenipflmlfaaGreatDoor

end Go.Proofs
