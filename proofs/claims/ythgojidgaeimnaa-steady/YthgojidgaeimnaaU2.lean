/- merged: two rising lists of keys as one. -/
import Derived.Test.YthgojidgaeimnaaU1
import Derived.Stop.RegionWithIn
namespace Go.Proofs.Ythgojidgaeimnaa
open Go.RowKit Go.Shelf

/-- what has come, and what is left of both -/
structure MergeAt (a b a' b' pre : List ByteArray) : Prop where
  come : Rises pre
  ra : Rises a'
  rb : Rises b'
  below : ∀ k ∈ pre, ∀ x, (x ∈ a' ∨ x ∈ b') → ltK k x = true
  all : ∀ k, (k ∈ pre ∨ k ∈ a' ∨ k ∈ b') ↔ (k ∈ a ∨ k ∈ b)
  len : pre.length + (a'.length + b'.length) ≤ a.length + b.length

theorem rises_cons {x : ByteArray} {r : List ByteArray} (h : Rises (x :: r)) : (∀ y ∈ r, ltK x y = true) ∧ Rises r := List.pairwise_cons.1 h

/-- the first of both is not above the others -/
theorem least_le {a b : List ByteArray} (ha : Rises a) (hb : Rises b) (hne : a ≠ [] ∨ b ≠ []) : (leastL a b ∈ a ∨ leastL a b ∈ b) ∧ (∀ x, (x ∈ a ∨ x ∈ b) → x = leastL a b ∨ ltK (leastL a b) x = true) := by
  cases a with
  | nil =>
    cases b with
    | nil => simp at hne
    | cons y r =>
      refine ⟨.inr (by simp [leastL]), fun x hx => ?_⟩
      simp only [leastL]
      rcases hx with hx | hx
      · cases hx
      · rcases List.mem_cons.1 hx with rfl | hx
        · exact .inl rfl
        · exact .inr ((rises_cons hb).1 x hx)
  | cons z q =>
    cases b with
    | nil =>
      refine ⟨.inl (by simp [leastL]), fun x hx => ?_⟩
      simp only [leastL]
      rcases hx with hx | hx
      · rcases List.mem_cons.1 hx with rfl | hx
        · exact .inl rfl
        · exact .inr ((rises_cons ha).1 x hx)
      · cases hx
    | cons y r =>
      have hA := (rises_cons ha).1
      have hB := (rises_cons hb).1
      simp only [leastL]
      cases hlt : ltK y z with
      | true =>
        simp only [if_true]
        refine ⟨.inr (by simp), fun x hx => ?_⟩
        rcases hx with hx | hx
        · rcases List.mem_cons.1 hx with rfl | hx
          · exact .inr hlt
          · exact .inr (ltK_trans hlt (hA x hx))
        · rcases List.mem_cons.1 hx with rfl | hx
          · exact .inl rfl
          · exact .inr (hB x hx)
      | false =>
        simp only [Bool.false_eq_true, if_false]
        refine ⟨.inl (by simp), fun x hx => ?_⟩
        rcases hx with hx | hx
        · rcases List.mem_cons.1 hx with rfl | hx
          · exact .inl rfl
          · exact .inr (hA x hx)
        · have hzy : y = z ∨ ltK z y = true := by
            cases h2 : ltK z y with
            | true => exact .inr rfl
            | false => exact .inl (ltK_total hlt h2)
          rcases List.mem_cons.1 hx with rfl | hx
          · exact hzy
          · rcases hzy with rfl | h2
            · exact .inr (hB x hx)
            · exact .inr (ltK_trans h2 (hB x hx))

/-- what is left of a rising list behind its first, if that is the key -/
theorem behind_mem {a : List ByteArray} {k : ByteArray} (ha : Rises a) (hle : ∀ x ∈ a, x = k ∨ ltK k x = true) : Rises (behindL a k) ∧ (∀ x, x ∈ behindL a k ↔ x ∈ a ∧ x ≠ k) := by
  cases a with
  | nil => exact ⟨ha, fun x => by simp [behindL]⟩
  | cons z q =>
    obtain ⟨h1, h2⟩ := rises_cons ha
    by_cases e : z = k
    · subst e
      have e1 : behindL (z :: q) z = q := by simp [behindL]
      rw [e1]
      refine ⟨h2, fun x => ⟨fun hx => ⟨List.mem_cons_of_mem _ hx, fun e => ?_⟩, fun hx => ?_⟩⟩
      · have := h1 x hx
        rw [e, ltK_irrefl] at this
        cases this
      · rcases List.mem_cons.1 hx.1 with e | h
        · exact absurd e hx.2
        · exact h
    · have e1 : behindL (z :: q) k = z :: q := by simp [behindL, e]
      rw [e1]
      refine ⟨ha, fun x => ⟨fun hx => ⟨hx, fun ex => ?_⟩, fun hx => hx.1⟩⟩
      subst ex
      rcases List.mem_cons.1 hx with ex | h
      · exact e ex.symm
      · have h3 := h1 x h
        rcases hle z (by simp) with ez | h4
        · exact e ez
        · have := ltK_trans h3 h4
          rw [ltK_irrefl] at this
          cases this

theorem behind_len (a : List ByteArray) (k : ByteArray) : (behindL a k).length ≤ a.length := by
  cases a with
  | nil => simp [behindL]
  | cons z q => by_cases e : z = k <;> simp [behindL, e]

theorem merge_less (a b : List ByteArray) (hne : a ≠ [] ∨ b ≠ []) : (behindL a (leastL a b)).length + (behindL b (leastL a b)).length < a.length + b.length := by
  cases a with
  | nil =>
    cases b with
    | nil => simp at hne
    | cons y r => simp [behindL, leastL]
  | cons z q =>
    cases b with
    | nil => simp [behindL, leastL]
    | cons y r =>
      by_cases h : ltK y z = true
      · have e : leastL (z :: q) (y :: r) = y := by simp [leastL, h]
        rw [e]
        have h1 := behind_len (z :: q) y
        have e2 : behindL (y :: r) y = r := by simp [behindL]
        rw [e2]
        simp only [List.length_cons] at h1 ⊢
        omega
      · have e : leastL (z :: q) (y :: r) = z := by simp [leastL, h]
        rw [e]
        have h1 := behind_len (y :: r) z
        have e2 : behindL (z :: q) z = q := by simp [behindL]
        rw [e2]
        simp only [List.length_cons] at h1 ⊢
        omega

theorem MergeAt.step {a b a' b' pre : List ByteArray} (h : MergeAt a b a' b' pre) (hne : a' ≠ [] ∨ b' ≠ []) : MergeAt a b (behindL a' (leastL a' b')) (behindL b' (leastL a' b')) (pre ++ [leastL a' b']) := by
  obtain ⟨h1, h2⟩ := least_le h.ra h.rb hne
  obtain ⟨pa, qa⟩ := behind_mem h.ra (fun x hx => h2 x (.inl hx))
  obtain ⟨pb, qb⟩ := behind_mem h.rb (fun x hx => h2 x (.inr hx))
  refine ⟨?_, pa, pb, fun k hk x hx => ?_, fun k => ?_, ?_⟩
  · unfold Rises
    rw [List.pairwise_append]
    refine ⟨h.come, List.pairwise_singleton _ _, fun x hx y hy => ?_⟩
    have ey : y = leastL a' b' := by simpa using hy
    rw [ey]
    exact h.below x hx _ h1
  · have hx' : (x ∈ a' ∨ x ∈ b') ∧ x ≠ leastL a' b' := by
      rcases hx with hx | hx
      · exact ⟨.inl ((qa x).1 hx).1, ((qa x).1 hx).2⟩
      · exact ⟨.inr ((qb x).1 hx).1, ((qb x).1 hx).2⟩
    rcases List.mem_append.1 hk with hk | hk
    · exact h.below k hk x hx'.1
    · have ek : k = leastL a' b' := by simpa using hk
      rcases h2 x hx'.1 with e | h3
      · exact absurd e hx'.2
      · rw [ek]; exact h3
  · rw [← h.all k, qa, qb]
    simp only [List.mem_append, List.mem_singleton]
    by_cases e : k = leastL a' b'
    · subst e
      constructor
      · intro _; exact .inr h1
      · intro _; exact .inl (.inr rfl)
    · constructor
      · rintro ((h | h) | h | h)
        · exact .inl h
        · exact absurd h e
        · exact .inr (.inl h.1)
        · exact .inr (.inr h.1)
      · rintro (h | h | h)
        · exact .inl (.inl h)
        · exact .inr (.inl ⟨h, e⟩)
        · exact .inr (.inr ⟨h, e⟩)
  · have h3 := merge_less a' b' hne
    have h4 := h.len
    simp only [List.length_append, List.length_cons, List.length_nil]
    omega

end Go.Proofs.Ythgojidgaeimnaa
