/- What becomes of a store by the versions that a work adds. -/
import Derived.Test.YtfcocbcihhdbkaaSG
namespace Go.Proofs.Ytfcocbcihhdbkaa
open Go.RowKit

theorem below_split {ks : List ByteArray} {x : ByteArray} (hr : Rises ks) (hx : x ∉ ks) : (∀ k ∈ ks.take (below ks x), ltK k x = true) ∧ (∀ k ∈ ks.drop (below ks x), ltK x k = true) := by
  constructor
  · intro k hk
    obtain ⟨j, hj, rfl⟩ := List.getElem_of_mem hk
    simp only [List.length_take] at hj
    have hjl : j < ks.length := by omega
    rw [List.getElem_take]
    exact below_lt hjl (by omega)
  · intro k hk
    obtain ⟨j, hj, rfl⟩ := List.getElem_of_mem hk
    simp only [List.length_drop] at hj
    have hjl : below ks x + j < ks.length := by omega
    have h1 := below_ge hr (x := x) hjl (Nat.le_add_right _ _)
    rw [List.getElem_drop]
    cases h2 : ltK x ks[below ks x + j] with
    | true => rfl
    | false =>
      have e := ltK_total h1 h2
      exact absurd (e ▸ List.getElem_mem hjl) hx

theorem rises_insAt {ks : List ByteArray} {x : ByteArray} (hr : Rises ks) (hx : x ∉ ks) : Rises (insAt ks (below ks x) x) := by
  obtain ⟨h1, h2⟩ := below_split hr hx
  have hr' : Rises (ks.take (below ks x) ++ ks.drop (below ks x)) := by rw [List.take_append_drop]; exact hr
  unfold Rises at hr' ⊢
  rw [List.pairwise_append] at hr'
  unfold insAt
  rw [List.pairwise_append]
  refine ⟨hr'.1, List.pairwise_cons.2 ⟨h2, hr'.2.1⟩, ?_⟩
  intro a ha b hb
  rcases List.mem_cons.1 hb with rfl | hb
  · exact h1 a ha
  · exact ltK_trans (h1 a ha) (h2 b hb)

theorem mem_insAt {ks : List ByteArray} {i : Nat} {x k : ByteArray} : k ∈ insAt ks i x ↔ k = x ∨ k ∈ ks := by
  unfold insAt
  rw [List.mem_append, List.mem_cons]
  constructor
  · rintro (h | h | h)
    · exact .inr (List.mem_of_mem_take h)
    · exact .inl h
    · exact .inr (List.mem_of_mem_drop h)
  · rintro (h | h)
    · exact .inr (.inl h)
    · have : k ∈ ks.take i ++ ks.drop i := by rw [List.take_append_drop]; exact h
      rcases List.mem_append.1 this with h | h
      · exact .inl h
      · exact .inr (.inr h)

theorem memB_insAt (ks : List ByteArray) (i : Nat) (x k : ByteArray) : memB (insAt ks i x) k = (decide (x = k) || memB ks k) := by
  rw [Bool.eq_iff_iff, memB_iff, mem_insAt]
  simp only [Bool.or_eq_true, decide_eq_true_eq, memB_iff]
  constructor
  · rintro (h | h)
    · exact .inl h.symm
    · exact .inr h
  · rintro (h | h)
    · exact .inl h.symm
    · exact .inr h

/-- What is tied between the list of keys and the versions. -/
structure Tied (R : Rep) : Prop where
  rises : Rises R.keys
  keys : ∀ k, memB R.keys k = (look R.hist k).isSome
  filled : ∀ p ∈ R.hist, p.2.vers ≠ []

/-- R' is R, but that each key of ks has one version more. -/
structure Grew (R : Rep) (ks : List ByteArray) (ver : ByteArray → Ver) (R' : Rep) : Prop where
  same : R' = { R with kv := R'.kv, keys := R'.keys, vm := R'.vm, hist := R'.hist }
  vers : ∀ k, versOf R'.hist k = if memB ks k then versOf R.hist k ++ [ver k] else versOf R.hist k
  tied : Tied R'

theorem Grew.refl {R : Rep} (h : Tied R) (ver : ByteArray → Ver) : Grew R [] ver R := ⟨rfl, fun k => by simp [memB], h⟩

theorem versOf_put (hist : List (ByteArray × HsR)) (key k : ByteArray) (x : HsR) : versOf (put hist key x) k = if key = k then x.vers else versOf hist k := by
  unfold versOf
  rw [look_put]
  split <;> simp_all

theorem memB_snoc (ks : List ByteArray) (x k : ByteArray) : memB (ks ++ [x]) k = (memB ks k || decide (x = k)) := by
  simp [memB]

/-- One version more. -/
theorem Grew.snoc {R Rj : Rep} {ks : List ByteArray} {ver : ByteArray → Ver} {key : ByteArray} {w : World} (h : Grew R ks ver Rj) (hw : StoreAt w Rj) (hn : memB ks key = false) (kv' sl' : Value) (b : Nat) :
    Grew R (ks ++ [key]) ver { Rj with kv := kv', keys := (if memB Rj.keys key then Rj.keys else insAt Rj.keys (below Rj.keys key) key), vm := some b, hist := put Rj.hist key ⟨sl', versOf Rj.hist key ++ [ver key]⟩ } := by
  have hs := h.same
  refine ⟨?_, fun k => ?_, ⟨?_, fun k => ?_, fun p hp => ?_⟩⟩
  · conv => lhs; rw [hs]
  · show versOf (put Rj.hist key ⟨sl', versOf Rj.hist key ++ [ver key]⟩) k = _
    rw [versOf_put, memB_snoc]
    by_cases e : key = k
    · subst e
      rw [if_pos rfl]
      simp only [decide_true, Bool.or_true, if_true]
      rw [h.vers, hn]
      simp
    · rw [if_neg e, h.vers]
      simp [e]
  · show Rises (if memB Rj.keys key then Rj.keys else insAt Rj.keys (below Rj.keys key) key)
    split
    · exact h.tied.rises
    · rename_i hm
      exact rises_insAt h.tied.rises (fun hx => hm ((memB_iff _ _).2 hx))
  · show memB (if memB Rj.keys key then Rj.keys else insAt Rj.keys (below Rj.keys key) key) k = (look (put Rj.hist key _) k).isSome
    rw [look_put]
    by_cases e : key = k
    · subst e
      rw [if_pos rfl]
      split
      · rename_i hm; simpa using hm
      · rw [memB_insAt]; simp
    · rw [if_neg e, ← h.tied.keys k]
      split
      · rfl
      · rw [memB_insAt]; simp [e]
  · have hp' : p ∈ put Rj.hist key ⟨sl', versOf Rj.hist key ++ [ver key]⟩ := hp
    rcases mem_put (hist_nodup hw.past) hp' with rfl | ⟨h1, _⟩
    · simp
    · exact h.tied.filled p h1

/-- Add, whatever the key has. -/
theorem add_any (R : Rep) (key : ByteArray) (v : Ver) (w : World) (h : StoreAt w R) (t : Tied R) (hl : R.keys.length < 1000000000000) (hv : (versOf R.hist key).length < 1000000000000) :
    Calls Try.prog 69 #[.pointer (some ⟨R.sb, 7, none⟩), .string key, .agg #[.int .i64 v.state, .string v.value, .bool v.gone]] w fun e w' => e = .returned (.tuple #[]) ∧ AddPost R key v w w' := by
  cases hx : look R.hist key with
  | some x =>
    have hm : memB R.keys key = true := by rw [t.keys, hx]; rfl
    have hvl : versOf R.hist key = x.vers := by unfold versOf; rw [hx]; rfl
    exact add_known R key v x w h hx hm (by rw [← hvl]; exact hv)
  | none =>
    have hm : memB R.keys key = false := by rw [t.keys, hx]; rfl
    cases hvm : R.vm with
    | some b => exact add_new R key v b w h hvm hx hm t.rises hl
    | none => exact add_first R key v w h hvm hm t.rises hl

end Go.Proofs.Ytfcocbcihhdbkaa
