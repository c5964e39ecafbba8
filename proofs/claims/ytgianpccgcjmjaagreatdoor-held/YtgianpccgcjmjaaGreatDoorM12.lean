import Derived.Test.YtgianpccgcjmjaaGreatDoorM11
import Derived.Stop.RegionWithIn
import Derived.Sort.AtCallIn

/- merged: two rising lists of keys as one. -/
namespace Go.Proofs.YtgianpccgcjmjaaGreatDoor
open Go.RowKit Go.Shelf

/-- what has come, and what is left of both -/
structure MergeAt (a b a' b' pre : List ByteArray) : Prop where
  come : Rises pre
  ra : Rises a'
  rb : Rises b'
  below : ∀ k ∈ pre, ∀ x, (x ∈ a' ∨ x ∈ b') → ltK k x = true
  all : ∀ k, (k ∈ pre ∨ k ∈ a' ∨ k ∈ b') ↔ (k ∈ a ∨ k ∈ b)
  len : pre.length + (a'.length + b'.length) ≤ a.length + b.length

theorem rises_cons {x : ByteArray} {r : List ByteArray} (h : Rises (x :: r)) : (∀ y ∈ r, ltK x y = true) ∧ Rises r := List.pairwise_cons.1 h

/-- the first of both is not above the others -/
theorem least_le {a b : List ByteArray} (ha : Rises a) (hb : Rises b) (hne : a ≠ [] ∨ b ≠ []) : (leastL a b ∈ a ∨ leastL a b ∈ b) ∧ (∀ x, (x ∈ a ∨ x ∈ b) → x = leastL a b ∨ ltK (leastL a b) x = true) := by
  cases a with
  | nil =>
    cases b with
    | nil => simp at hne
    | cons y r =>
      refine ⟨.inr (by simp [leastL]), fun x hx => ?_⟩
      simp only [leastL]
      rcases hx with hx | hx
      · cases hx
      · rcases List.mem_cons.1 hx with rfl | hx
        · exact .inl rfl
        · exact .inr ((rises_cons hb).1 x hx)
  | cons z q =>
    cases b with
    | nil =>
      refine ⟨.inl (by simp [leastL]), fun x hx => ?_⟩
      simp only [leastL]
      rcases hx with hx | hx
      · rcases List.mem_cons.1 hx with rfl | hx
        · exact .inl rfl
        · exact .inr ((rises_cons ha).1 x hx)
      · cases hx
    | cons y r =>
      have hA := (rises_cons ha).1
      have hB := (rises_cons hb).1
      simp only [leastL]
      cases hlt : ltK y z with
      | true =>
        simp only [if_true]
        refine ⟨.inr (by simp), fun x hx => ?_⟩
        rcases hx with hx | hx
        · rcases List.mem_cons.1 hx with rfl | hx
          · exact .inr hlt
          · exact .inr (ltK_trans hlt (hA x hx))
        · rcases List.mem_cons.1 hx with rfl | hx
          · exact .inl rfl
          · exact .inr (hB x hx)
      | false =>
        simp only [Bool.false_eq_true, if_false]
        refine ⟨.inl (by simp), fun x hx => ?_⟩
        rcases hx with hx | hx
        · rcases List.mem_cons.1 hx with rfl | hx
          · exact .inl rfl
          · exact .inr (hA x hx)
        · have hzy : y = z ∨ ltK z y = true := by
            cases h2 : ltK z y with
            | true => exact .inr rfl
            | false => exact .inl (ltK_total hlt h2)
          rcases List.mem_cons.1 hx with rfl | hx
          · exact hzy
          · rcases hzy with rfl | h2
            · exact .inr (hB x hx)
            · exact .inr (ltK_trans h2 (hB x hx))

/-- what is left of a rising list behind its first, if that is the key -/
theorem behind_mem {a : List ByteArray} {k : ByteArray} (ha : Rises a) (hle : ∀ x ∈ a, x = k ∨ ltK k x = true) : Rises (behindL a k) ∧ (∀ x, x ∈ behindL a k ↔ x ∈ a ∧ x ≠ k) := by
  cases a with
  | nil => exact ⟨ha, fun x => by simp [behindL]⟩
  | cons z q =>
    obtain ⟨h1, h2⟩ := rises_cons ha
    by_cases e : z = k
    · subst e
      have e1 : behindL (z :: q) z = q := by simp [behindL]
      rw [e1]
      refine ⟨h2, fun x => ⟨fun hx => ⟨List.mem_cons_of_mem _ hx, fun e => ?_⟩, fun hx => ?_⟩⟩
      · have := h1 x hx
        rw [e, ltK_irrefl] at this
        cases this
      · rcases List.mem_cons.1 hx.1 with e | h
        · exact absurd e hx.2
        · exact h
    · have e1 : behindL (z :: q) k = z :: q := by simp [behindL, e]
      rw [e1]
      refine ⟨ha, fun x => ⟨fun hx => ⟨hx, fun ex => ?_⟩, fun hx => hx.1⟩⟩
      subst ex
      rcases List.mem_cons.1 hx with ex | h
      · exact e ex.symm
      · have h3 := h1 x h
        rcases hle z (by simp) with ez | h4
        · exact e ez
        · have := ltK_trans h3 h4
          rw [ltK_irrefl] at this
          cases this

theorem behind_len (a : List ByteArray) (k : ByteArray) : (behindL a k).length ≤ a.length := by
  cases a with
  | nil => simp [behindL]
  | cons z q => by_cases e : z = k <;> simp [behindL, e]

theorem merge_less (a b : List ByteArray) (hne : a ≠ [] ∨ b ≠ []) : (behindL a (leastL a b)).length + (behindL b (leastL a b)).length < a.length + b.length := by
  cases a with
  | nil =>
    cases b with
    | nil => simp at hne
    | cons y r => simp [behindL, leastL]
  | cons z q =>
    cases b with
    | nil => simp [behindL, leastL]
    | cons y r =>
      by_cases h : ltK y z = true
      · have e : leastL (z :: q) (y :: r) = y := by simp [leastL, h]
        rw [e]
        have h1 := behind_len (z :: q) y
        have e2 : behindL (y :: r) y = r := by simp [behindL]
        rw [e2]
        simp only [List.length_cons] at h1 ⊢
        omega
      · have e : leastL (z :: q) (y :: r) = z := by simp [leastL, h]
        rw [e]
        have h1 := behind_len (y :: r) z
        have e2 : behindL (z :: q) z = q := by simp [behindL]
        rw [e2]
        simp only [List.length_cons] at h1 ⊢
        omega

theorem MergeAt.step {a b a' b' pre : List ByteArray} (h : MergeAt a b a' b' pre) (hne : a' ≠ [] ∨ b' ≠ []) : MergeAt a b (behindL a' (leastL a' b')) (behindL b' (leastL a' b')) (pre ++ [leastL a' b']) := by
  obtain ⟨h1, h2⟩ := least_le h.ra h.rb hne
  obtain ⟨pa, qa⟩ := behind_mem h.ra (fun x hx => h2 x (.inl hx))
  obtain ⟨pb, qb⟩ := behind_mem h.rb (fun x hx => h2 x (.inr hx))
  refine ⟨?_, pa, pb, fun k hk x hx => ?_, fun k => ?_, ?_⟩
  · unfold Rises
    rw [List.pairwise_append]
    refine ⟨h.come, List.pairwise_singleton _ _, fun x hx y hy => ?_⟩
    have ey : y = leastL a' b' := by simpa using hy
    rw [ey]
    exact h.below x hx _ h1
  · have hx' : (x ∈ a' ∨ x ∈ b') ∧ x ≠ leastL a' b' := by
      rcases hx with hx | hx
      · exact ⟨.inl ((qa x).1 hx).1, ((qa x).1 hx).2⟩
      · exact ⟨.inr ((qb x).1 hx).1, ((qb x).1 hx).2⟩
    rcases List.mem_append.1 hk with hk | hk
    · exact h.below k hk x hx'.1
    · have ek : k = leastL a' b' := by simpa using hk
      rcases h2 x hx'.1 with e | h3
      · exact absurd e hx'.2
      · rw [ek]; exact h3
  · rw [← h.all k, qa, qb]
    simp only [List.mem_append, List.mem_singleton]
    by_cases e : k = leastL a' b'
    · subst e
      constructor
      · intro _; exact .inr h1
      · intro _; exact .inl (.inr rfl)
    · constructor
      · rintro ((h | h) | h | h)
        · exact .inl h
        · exact absurd h e
        · exact .inr (.inl h.1)
        · exact .inr (.inr h.1)
      · rintro (h | h | h)
        · exact .inl (.inl h)
        · exact .inr (.inl ⟨h, e⟩)
        · exact .inr (.inr ⟨h, e⟩)
  · have h3 := merge_less a' b' hne
    have h4 := h.len
    simp only [List.length_append, List.length_cons, List.length_nil]
    omega

end Go.Proofs.YtgianpccgcjmjaaGreatDoor

/- merged, walked. -/
namespace Go.Proofs.YtgianpccgcjmjaaGreatDoor
open Go.RowKit Go.Shelf

attribute [local go_sem] Oper.semAt_some

/-- how long the slice in a box is -/
def boxLen (w : World) (p : Nat) : Nat := match w.cell? ⟨p, 0, none⟩ with
  | some (.slice _ n _) => n
  | _ => 0

/-- what a round keeps for the iterator -/
def KpM (G : List Nat) (A B : World) : Prop := A.heap.size ≤ B.heap.size ∧ ∀ k ∈ G, B.heap[k]? = A.heap[k]?

/-- what is left lies so -/
def MergeMem (G : List Nat) (pa pb : Nat) (a b pre : List ByteArray) (wr : World) : Prop :=
  ∃ va vb a' b', wr.heap[pa]? = some (.cells #[va] 57 (0, 0)) ∧ wr.heap[pb]? = some (.cells #[vb] 57 (0, 0)) ∧ Seg G wr va a' ∧ Seg G wr vb b' ∧ MergeAt a b a' b' pre

theorem merge_next {G : List Nat} {pa pb : Nat} {a b pre a2 b2 : List ByteArray} {w1 W4 : World} {x y va2 vb2 : Value} (hpa : pa ∉ G) (hpb : pb ∉ G) (hne : pa ≠ pb) (hG : ∀ k ∈ G, k < w1.heap.size)
    (d1 : w1.heap[pa]? = some (.cells #[x] 57 (0, 0))) (d2 : w1.heap[pb]? = some (.cells #[y] 57 (0, 0))) (t3 : Seg G w1 va2 a2) (t4 : Seg G w1 vb2 b2) (hst : MergeAt a b a2 b2 pre)
    (hk : KpM (pa :: pb :: G) (((w1.setCell ⟨pa, 0, none⟩ va2).setCell ⟨pb, 0, none⟩ vb2).drew) W4) : (MergeMem G pa pb a b pre W4 ∧ ∀ k ∈ G, k < W4.heap.size) ∧ W4.cell? ⟨pa, 0, none⟩ = some va2 ∧ W4.cell? ⟨pb, 0, none⟩ = some vb2 := by
  have p1 : (w1.setCell ⟨pa, 0, none⟩ va2).heap[pa]? = some (.cells #[va2] 57 (0, 0)) := by rw [heap_setCell_same d1]; rfl
  have p2 : (w1.setCell ⟨pa, 0, none⟩ va2).heap[pb]? = some (.cells #[y] 57 (0, 0)) := ((Keeps.setCell w1 ⟨pa, 0, none⟩ va2).block pb (Array.getElem?_eq_some_iff.1 d2).1 (fun e => hne e.symm)).trans d2
  have q2 : ((w1.setCell ⟨pa, 0, none⟩ va2).setCell ⟨pb, 0, none⟩ vb2).heap[pb]? = some (.cells #[vb2] 57 (0, 0)) := by rw [heap_setCell_same p2]; rfl
  have q1 : ((w1.setCell ⟨pa, 0, none⟩ va2).setCell ⟨pb, 0, none⟩ vb2).heap[pa]? = some (.cells #[va2] 57 (0, 0)) := ((Keeps.setCell _ ⟨pb, 0, none⟩ vb2).block pa (Array.getElem?_eq_some_iff.1 p1).1 hne).trans p1
  have r1 : W4.heap[pa]? = some (.cells #[va2] 57 (0, 0)) := (hk.2 pa (by simp)).trans q1
  have r2 : W4.heap[pb]? = some (.cells #[vb2] 57 (0, 0)) := (hk.2 pb (by simp)).trans q2
  have hsz : w1.heap.size ≤ W4.heap.size := by
    have h1 := (Keeps.setCell w1 ⟨pa, 0, none⟩ va2).size
    have h2 := (Keeps.setCell (w1.setCell ⟨pa, 0, none⟩ va2) ⟨pb, 0, none⟩ vb2).size
    have h3 : ((w1.setCell ⟨pa, 0, none⟩ va2).setCell ⟨pb, 0, none⟩ vb2).heap.size ≤ W4.heap.size := hk.1
    omega
  have hg : ∀ k ∈ G, W4.heap[k]? = w1.heap[k]? := fun k hkG => by
    have e1 : k ≠ pa := fun e => hpa (e ▸ hkG)
    have e2 : k ≠ pb := fun e => hpb (e ▸ hkG)
    refine (hk.2 k (by simp [hkG])).trans ?_
    exact ((Keeps.setCell (w1.setCell ⟨pa, 0, none⟩ va2) ⟨pb, 0, none⟩ vb2).block k (Nat.lt_of_lt_of_le (hG k hkG) (Keeps.setCell w1 ⟨pa, 0, none⟩ va2).size) e2).trans ((Keeps.setCell w1 ⟨pa, 0, none⟩ va2).block k (hG k hkG) e1)
  exact ⟨⟨⟨va2, vb2, a2, b2, r1, r2, t3.kept hg, t4.kept hg, hst⟩, fun k hkG => Nat.lt_of_lt_of_le (hG k hkG) hsz⟩, cell_of_heap r1 0, cell_of_heap r2 0⟩

set_option maxRecDepth 100000 in
set_option maxHeartbeats 1000000 in
theorem merged1_all (G : List Nat) (pa pb : Nat) (a b : List ByteArray) (w : World) (hpa : pa ∉ G) (hpb : pb ∉ G) (hne : pa ≠ pb) (hG : ∀ k ∈ G, k < w.heap.size) (h : MergeMem G pa pb a b [] w) :
    SeqAll Fence.wide 7 Tryz.prog 90 #[.pointer (some ⟨pa, 0, none⟩), .pointer (some ⟨pb, 0, none⟩)] (fun x : ByteArray => #[.string x]) (Keeps (fun k => k = pa ∨ k = pb)) (KpM (pa :: pb :: G)) (fun xs => MergeAt a b [] [] xs) (a.length + b.length) w := by
  intro l J W hW hJC hY h0
  have hM0 : MergeMem G pa pb a b [] W := by
    obtain ⟨va, vb, a', b', h1, h2, h3, h4, h5⟩ := h
    have hk : ∀ k ∈ G, W.heap[k]? = w.heap[k]? := fun k hk => hW.block k (hG k hk) (fun h => h)
    exact ⟨va, vb, a', b', (hW.block pa (Array.getElem?_eq_some_iff.1 h1).1 (fun h => h)).trans h1, (hW.block pb (Array.getElem?_eq_some_iff.1 h2).1 (fun h => h)).trans h2, h3.kept hk, h4.kept hk, h5⟩
  refine callsIn_of_wp Tryz.func90 rfl trivial ?_ rfl
  simp only [Tryz.ntmps90, List.size_toArray, List.length_cons, List.length_nil, Nat.reduceAdd, Nat.reduceSub, Array.replicate_succ, Array.replicate_zero, List.push_toArray, List.append_toArray, List.nil_append, List.cons_append]
  gi_wp2
  gi_loopw [4] (fun _ wr => ∃ pre, J pre wr ∧ MergeMem G pa pb a b pre wr ∧ ∀ k ∈ G, k < wr.heap.size) (fun _ wr => boxLen wr pa + boxLen wr pb)
  case atStart => exact ⟨[], h0, hM0, fun k hk => Nat.lt_of_lt_of_le (hG k hk) hW.size⟩
  case round =>
    obtain ⟨pre, hJ, ⟨va, vb, a', b', h1, h2, h3, h4, h5⟩, hGr⟩ := hrel
    clear hM0 h0 h hW
    obtain ⟨oa, ca, rfl⟩ := h3.form
    obtain ⟨ob, cb, rfl⟩ := h4.form
    by_cases hne' : a' = [] ∧ b' = []
    · obtain ⟨rfl, rfl⟩ := hne'
      have c1 := cell_of_heap h1 0
      have c2 := cell_of_heap h2 0
      have HJ := hid hJ
      have H5 := hid h5
      simp at c1 c2
      clear h1 h2 h3 h4 h5 hJ hJC hY
      gi_wp2
      go_end0
      exact ⟨⟨_, rfl⟩, pre, H5.out, HJ.out⟩
    · have hne2 : a' ≠ [] ∨ b' ≠ [] := by
        by_cases e : a' = []
        · exact .inr (fun e2 => hne' ⟨e, e2⟩)
        · exact .inl e
      have HLE := hid (least_any _ _ a' b' wr h3 h4 hne2)
      have HST := hid (h5.step hne2)
      have HLS := hid (merge_less a' b' hne2)
      have HLN : Hid (pre.length < a.length + b.length) := by
        have h8 := h5.len
        have h9 := merge_less a' b' hne2
        show _ < _
        omega
      generalize leastL a' b' = key at HLE HST HLS
      have c1 := cell_of_heap h1 0
      have c2 := cell_of_heap h2 0
      simp at c1 c2
      have H1 := hid h1
      have H2 := hid h2
      have H3 := hid h3
      have H4 := hid h4
      have HJ := hid hJ
      have HJC := hid hJC
      have HY := hid hY
      have hcase : (0 < a'.length) ∨ (a'.length = 0 ∧ 0 < b'.length) := by
        rcases Nat.eq_zero_or_pos a'.length with e | e
        · right
          refine ⟨e, ?_⟩
          have : b'.length ≠ 0 := fun e2 => hne' ⟨List.eq_nil_of_length_eq_zero e, List.eq_nil_of_length_eq_zero e2⟩
          omega
        · left; exact e
      have HGL : Hid (∀ k ∈ G, k < wr.heap.size) := hGr
      clear h1 h2 h3 h4 h5 hJ hJC hY hne' hne2 hGr
      generalize hna : a'.length = na at HLE H1 H2 H3 H4 c1 c2 hcase
      have HNA := hid hna
      clear hna
      rcases hcase with hca | ⟨hca, hcb⟩
      · gi_wp2_with (refine ⟨trivial, ?_⟩; gi_at_call 91; go_must (refine (callsIn_wide.2 HLE.out).mono ?_; rintro e w1 ⟨rfl, k1⟩; have d1 := (k1.block pa (Array.getElem?_eq_some_iff.1 H1.out).1 (fun h => h)).trans H1.out; have d2 := (k1.block pb (Array.getElem?_eq_some_iff.1 H2.out).1 (fun h => h)).trans H2.out; have e1 := cell_of_heap d1 0; have e2 := cell_of_heap d2 0; have f1 := frozen_of_heap d1 0; have f2 := frozen_of_heap d2 0; simp at e1 e2; have D1 := hid d1; have D2 := hid d2; have K1 := hid k1; clear d1 d2 k1 c1 c2))
        obtain ⟨va2, hva2⟩ : ∃ v, v = behindV (.slice oa na ca) (hitB a' key) := ⟨_, rfl⟩
        obtain ⟨vb2, hvb2⟩ : ∃ v, v = behindV (.slice ob b'.length cb) (hitB b' key) := ⟨_, rfl⟩
        have hGk : ∀ k ∈ G, w1.heap[k]? = wr.heap[k]? := fun k hk => K1.out.block k (HGL.out k hk) (fun h => h)
        have S3 := hid (H3.out.kept hGk)
        have S4 := hid (H4.out.kept hGk)
        have HBA : Hid (∀ W, (∀ k ∈ G, W.heap[k]? = w1.heap[k]?) → Calls Tryz.prog 92 #[.slice oa na ca, .string key] W fun e w' => e = .returned va2 ∧ w' = W) := fun W hk => by have := behind_any _ key a' W (S3.out.kept hk); rwa [← hva2] at this
        have HBB : Hid (∀ W, (∀ k ∈ G, W.heap[k]? = w1.heap[k]?) → Calls Tryz.prog 92 #[.slice ob b'.length cb, .string key] W fun e w' => e = .returned vb2 ∧ w' = W) := fun W hk => by have := behind_any _ key b' W (S4.out.kept hk); rwa [← hvb2] at this
        have T3 := hid (S3.out.behind key)
        have T4 := hid (S4.out.behind key)
        rw [← hva2] at T3
        rw [← hvb2] at T4
        clear hva2 hvb2 hGk
        obtain ⟨oa2, ca2, rfl⟩ := T3.out.form
        obtain ⟨ob2, cb2, rfl⟩ := T4.out.form
        have HKW : Hid (Keeps (fun k => k = pa ∨ k = pb) wr (((w1.setCell ⟨pa, 0, none⟩ (.slice oa2 (behindL a' key).length ca2)).setCell ⟨pb, 0, none⟩ (.slice ob2 (behindL b' key).length cb2)).drew)) := (((K1.out.mono (fun _ _ h => h.elim)).trans (Keeps.setCell _ _ _) (fun k _ e => .inl e)).trans (Keeps.setCell _ _ _) (fun k _ e => .inr e)).dr
        have HY3 := hid (HY.out pre key _ (HJC.out pre wr _ HKW.out HJ.out) HLN.out)
        have HGW : Hid (∀ k ∈ G, k < w1.heap.size) := fun k hk => Nat.lt_of_lt_of_le (HGL.out k hk) K1.out.size
        have hm1 : boxLen wr pa + boxLen wr pb = a'.length + b'.length := by rw [HNA.out]; simp [boxLen, cell_of_heap H1.out 0, cell_of_heap H2.out 0]
        have HM1 := hid hm1
        clear hm1
        gi_region_with (first
          | (refine ⟨trivial, ?_⟩; gi_at_call_has 92 (Value.slice oa na ca); go_must (refine (callsIn_wide.2 (HBA.out w1.drew (fun _ _ => rfl))).mono ?_; rintro e wz ⟨rfl, rfl⟩))
          | (refine ⟨trivial, ?_⟩; gi_at_call_has 92 (Value.slice ob b'.length cb); go_must (refine (callsIn_wide.2 (HBB.out w1.drew (fun _ _ => rfl))).mono ?_; rintro e wz ⟨rfl, rfl⟩)))
        all_goals
          obtain ⟨fn, tmps, assign, body, hy, hR⟩ := HY3.out
          clear HY3 HY HJC HBA HBB HLE
          gi_wp2
          refine hR.mono ?_
          rintro e W4 ⟨rfl, hJ4, hk4⟩
          obtain ⟨hmem, x1, x2⟩ := merge_next hpa hpb hne HGW.out D1.out D2.out T3.out T4.out HST.out hk4
          have HMEM := hid hmem
          have HJ4 := hid hJ4
          have hm4 : boxLen W4 pa + boxLen W4 pb = (behindL a' key).length + (behindL b' key).length := by simp [boxLen, x1, x2]
          have HM4 := hid hm4
          clear hmem hJ4 hk4 hm4 hy hR x1 x2 e1 e2 f1 f2
          gi_wp2
          exact ⟨⟨pre ++ [key], HJ4.out, HMEM.out⟩, by rw [HM1.out, HM4.out]; exact HLS.out⟩
      · subst hca
        gi_wp2_with (refine ⟨trivial, ?_⟩; gi_at_call 91; go_must (refine (callsIn_wide.2 HLE.out).mono ?_; rintro e w1 ⟨rfl, k1⟩; have d1 := (k1.block pa (Array.getElem?_eq_some_iff.1 H1.out).1 (fun h => h)).trans H1.out; have d2 := (k1.block pb (Array.getElem?_eq_some_iff.1 H2.out).1 (fun h => h)).trans H2.out; have e1 := cell_of_heap d1 0; have e2 := cell_of_heap d2 0; have f1 := frozen_of_heap d1 0; have f2 := frozen_of_heap d2 0; simp at e1 e2; have D1 := hid d1; have D2 := hid d2; have K1 := hid k1; clear d1 d2 k1 c1 c2))
        obtain ⟨va2, hva2⟩ : ∃ v, v = behindV (.slice oa 0 ca) (hitB a' key) := ⟨_, rfl⟩
        obtain ⟨vb2, hvb2⟩ : ∃ v, v = behindV (.slice ob b'.length cb) (hitB b' key) := ⟨_, rfl⟩
        have hGk : ∀ k ∈ G, w1.heap[k]? = wr.heap[k]? := fun k hk => K1.out.block k (HGL.out k hk) (fun h => h)
        have S3 := hid (H3.out.kept hGk)
        have S4 := hid (H4.out.kept hGk)
        have HBA : Hid (∀ W, (∀ k ∈ G, W.heap[k]? = w1.heap[k]?) → Calls Tryz.prog 92 #[.slice oa 0 ca, .string key] W fun e w' => e = .returned va2 ∧ w' = W) := fun W hk => by have := behind_any _ key a' W (S3.out.kept hk); rwa [← hva2] at this
        have HBB : Hid (∀ W, (∀ k ∈ G, W.heap[k]? = w1.heap[k]?) → Calls Tryz.prog 92 #[.slice ob b'.length cb, .string key] W fun e w' => e = .returned vb2 ∧ w' = W) := fun W hk => by have := behind_any _ key b' W (S4.out.kept hk); rwa [← hvb2] at this
        have T3 := hid (S3.out.behind key)
        have T4 := hid (S4.out.behind key)
        rw [← hva2] at T3
        rw [← hvb2] at T4
        clear hva2 hvb2 hGk
        obtain ⟨oa2, ca2, rfl⟩ := T3.out.form
        obtain ⟨ob2, cb2, rfl⟩ := T4.out.form
        have HKW : Hid (Keeps (fun k => k = pa ∨ k = pb) wr (((w1.setCell ⟨pa, 0, none⟩ (.slice oa2 (behindL a' key).length ca2)).setCell ⟨pb, 0, none⟩ (.slice ob2 (behindL b' key).length cb2)).drew)) := (((K1.out.mono (fun _ _ h => h.elim)).trans (Keeps.setCell _ _ _) (fun k _ e => .inl e)).trans (Keeps.setCell _ _ _) (fun k _ e => .inr e)).dr
        have HY3 := hid (HY.out pre key _ (HJC.out pre wr _ HKW.out HJ.out) HLN.out)
        have HGW : Hid (∀ k ∈ G, k < w1.heap.size) := fun k hk => Nat.lt_of_lt_of_le (HGL.out k hk) K1.out.size
        have hm1 : boxLen wr pa + boxLen wr pb = a'.length + b'.length := by rw [HNA.out]; simp [boxLen, cell_of_heap H1.out 0, cell_of_heap H2.out 0]
        have HM1 := hid hm1
        clear hm1
        gi_region_with (first
          | (refine ⟨trivial, ?_⟩; gi_at_call_has 92 (Value.slice oa 0 ca); go_must (refine (callsIn_wide.2 (HBA.out w1.drew (fun _ _ => rfl))).mono ?_; rintro e wz ⟨rfl, rfl⟩))
          | (refine ⟨trivial, ?_⟩; gi_at_call_has 92 (Value.slice ob b'.length cb); go_must (refine (callsIn_wide.2 (HBB.out w1.drew (fun _ _ => rfl))).mono ?_; rintro e wz ⟨rfl, rfl⟩)))
        all_goals
          obtain ⟨fn, tmps, assign, body, hy, hR⟩ := HY3.out
          clear HY3 HY HJC HBA HBB HLE
          gi_wp2
          refine hR.mono ?_
          rintro e W4 ⟨rfl, hJ4, hk4⟩
          obtain ⟨hmem, x1, x2⟩ := merge_next hpa hpb hne HGW.out D1.out D2.out T3.out T4.out HST.out hk4
          have HMEM := hid hmem
          have HJ4 := hid hJ4
          have hm4 : boxLen W4 pa + boxLen W4 pb = (behindL a' key).length + (behindL b' key).length := by simp [boxLen, x1, x2]
          have HM4 := hid hm4
          clear hmem hJ4 hk4 hm4 hy hR x1 x2 e1 e2 f1 f2
          gi_wp2
          exact ⟨⟨pre ++ [key], HJ4.out, HMEM.out⟩, by rw [HM1.out, HM4.out]; exact HLS.out⟩

end Go.Proofs.YtgianpccgcjmjaaGreatDoor

/- The keys that have versions, from the first on; two lists merged. -/
namespace Go.Proofs.YtgianpccgcjmjaaGreatDoor
open Go.RowKit Go.Shelf

theorem Row.seg {G : List Nat} {w : World} {v : Value} {ks : List ByteArray} (h : Row w 9 1 v ks.length (ks.map Value.string)) (hG : ∀ g, v.ownBlock = some g → g ∈ G) : Seg G w v ks := by
  rcases h.2 with ⟨rfl, e⟩ | ⟨g, cap, cur, rfl, hh, h1, h2, h3, h4⟩
  · exact .inl ⟨List.eq_nil_of_length_eq_zero e, none, 0, rfl⟩
  · refine .inr ⟨g, 0, cap, hG g rfl, rfl, h1, h2, fun i hi => ?_⟩
    rw [Nat.zero_add, h.cellAt i (by omega)]
    simp [hi]

/-- the slice of the keys, cut off at its end -/
def keysV (v : Value) : Value :=
  match v with
  | .slice a n _ => .slice a n n
  | v => v

theorem seg_keysV {G : List Nat} {w : World} {v : Value} {ks : List ByteArray} (h : Row w 9 1 v ks.length (ks.map Value.string)) (hG : ∀ g, v.ownBlock = some g → g ∈ G) : Seg G w (keysV v) ks := by
  rcases h.2 with ⟨rfl, e⟩ | ⟨g, cap, cur, rfl, hh, h1, h2, h3, h4⟩
  · exact .inl ⟨List.eq_nil_of_length_eq_zero e, none, 0, rfl⟩
  · refine .inr ⟨g, 0, ks.length, hG g rfl, rfl, Nat.le_refl _, by omega, fun i hi => ?_⟩
    rw [Nat.zero_add, h.cellAt i (by omega)]
    simp [hi]

set_option maxRecDepth 100000 in
set_option maxHeartbeats 800000 in
theorem pastKeys_any (R : Rep) (w : World) (h : StoreAt w R) (hr : Rises R.keys) (hl : R.keys.length < 1000000000000) :
    Calls Tryz.prog 58 #[.pointer (some ⟨R.sb, 7, none⟩), .string ⟨#[]⟩] w fun e w' => e = .returned (keysV R.kv) ∧ Keeps (fun _ => False) w w' := by
  have hs := search_keys R.kv R.keys ⟨#[]⟩ w h.past.keysRow hr (by omega)
  rw [below_empty] at hs
  have c5 : w.cell? ⟨R.sb, 7, none⟩ = some R.kv := h.cell 7
  have HS := hid hs
  rcases h.past.keysRow.2 with ⟨e, en⟩ | ⟨g, cap, cur, e, hh, h1, h2, h3, h4⟩
  · rw [e] at c5 HS ⊢
    simp only [keysV]
    clear h hs e en
    generalize memB R.keys ⟨#[]⟩ = m at HS
    simp only [Int.natCast_zero] at HS
    go_enter Tryz.func58, Tryz.ntmps58
    go_wp2_with (go_at_call 93; go_must (refine (HS.out).mono ?_; rintro e w1 ⟨rfl, k1⟩; have d5 := k1.cell (p := ⟨R.sb, 7, none⟩) c5 (fun h => h)))
    go_region
    go_wp2
    go_ret
    exact ⟨rfl, k1.dr⟩
  · rw [e] at c5 HS ⊢
    simp only [keysV]
    clear h hs e hh h3 h4
    generalize memB R.keys ⟨#[]⟩ = m at HS
    generalize R.keys.length = n at *
    unfold maxLen at h2
    simp only [Int.natCast_zero] at HS
    go_enter Tryz.func58, Tryz.ntmps58
    go_wp2_with (go_at_call 93; go_must (refine (HS.out).mono ?_; rintro e w1 ⟨rfl, k1⟩; have d5 := k1.cell (p := ⟨R.sb, 7, none⟩) c5 (fun h => h)))
    go_region
    go_wp2
    go_ret
    exact ⟨rfl, k1.dr⟩

set_option maxRecDepth 100000 in
set_option maxHeartbeats 400000 in
theorem merged_any (oa ob : Option Addr) (na nb ca cb : Nat) (w : World) :
    Calls Tryz.prog 57 #[.slice oa na ca, .slice ob nb cb] w fun e w' => e = .returned (.func (.func 90) #[] #[.pointer (some ⟨w.heap.size, 0, none⟩), .pointer (some ⟨w.heap.size + 1, 0, none⟩)]) ∧ w' = (w.alloc (.cells #[.slice oa na ca] 57)).alloc (.cells #[.slice ob nb cb] 57) := by
  have hmf : ∀ (fn : Fn) (first cap : Array Value) (w : World), (Instr.makeFunc fn first cap).run Tryz.prog w = .ok (.func fn first cap) w := fun _ _ _ _ => rfl
  go_enter Tryz.func57, Tryz.ntmps57
  go_wp2
  go_ret
  exact ⟨rfl, rfl⟩

end Go.Proofs.YtgianpccgcjmjaaGreatDoor

/- Scan, from the first key on, without a bound. -/
namespace Go.Proofs.YtgianpccgcjmjaaGreatDoor
open Go.RowKit Go.Shelf

attribute [local go_sem] Oper.semAt_some

/-- what a work sees under a key, as a pair -/
def pairOf (ws : List (ByteArray × Ver)) (vers : ByteArray → List Ver) (began : Int) (key : ByteArray) : Option (ByteArray × ByteArray) :=
  if standsB (seeVer ws (vers key) began key) = true then some (key, ((seeVer ws (vers key) began key).getD Ver.zero).value) else none

def pairCells (p : ByteArray × ByteArray) : List Value := [.string p.1, .string p.2]

/-- what Scan leaves -/
def ScanPost (R : Rep) (x : WkR) (w : World) (e : Ending) (w' : World) : Prop :=
  ∃ v xs kw, e = .returned (.tuple #[v, .int .i64 0]) ∧ kw.Perm (x.writes.map (·.1)) ∧ MergeAt R.keys kw [] [] xs ∧
    Row w' 88 2 v (xs.filterMap (pairOf x.writes (versOf R.hist) x.began)).length ((xs.filterMap (pairOf x.writes (versOf R.hist) x.began)).flatMap pairCells) ∧ (∀ g, v.ownBlock = some g → w.heap.size ≤ g) ∧ Keeps (fun _ => False) w w'

/-- Between two rounds of Scan: the pairs so far. -/
def ScanAt (f : ByteArray → Option (ByteArray × ByteArray)) (pB pa pb : Nat) (w5 : World) (pre : List ByteArray) (W : World) : Prop :=
  ∃ v, W.heap[pB]? = some (.cells #[v] 31 (0, 0)) ∧ Row W 88 2 v (pre.filterMap f).length ((pre.filterMap f).flatMap pairCells) ∧ (∀ g, v.ownBlock = some g → w5.heap.size ≤ g) ∧ Keeps (fun k => k = pB ∨ k = pa ∨ k = pb) w5 W

theorem Row.cellsAt {w : World} {e : TypeId} {size n : Nat} {v : Value} {xs : List Value} (h : Row w e size v n xs) {g : Nat} (hg : v.ownBlock = some g) : ∃ cur, w.heap[g]? = some (.cells cur e (0, 0)) := by
  rcases h.2 with ⟨rfl, _⟩ | ⟨g', cap, cur, rfl, hh, _⟩
  · simp [Value.ownBlock] at hg
  · simp [Value.ownBlock] at hg
    subst hg
    exact ⟨cur, hh⟩

theorem scanAt_own {f : ByteArray → Option (ByteArray × ByteArray)} {pB pa pb : Nat} {w5 : World} (hB : pB < w5.heap.size) : OwnFrom w5.heap.size (ScanAt f pB pa pb w5) := by
  intro pre W W' row hs hg hr
  obtain ⟨v, h1, h2, h3, h4⟩ := hs
  refine ⟨v, ?_, h2.kept (Keeps.grown hg) (fun g hgv e => ?_), h3, h4.trans (Keeps.grown hg) (fun k hk e => ?_)⟩
  · refine ((Keeps.grown hg).block pB (Array.getElem?_eq_some_iff.1 h1).1 (fun e => ?_)).trans h1
    have := (hr pB e.symm).1
    omega
  · obtain ⟨_, o, ho, hc⟩ := hr g e.symm
    obtain ⟨cur, hcur⟩ := h2.cellsAt hgv
    rw [hcur] at ho
    cases ho
    cases hc
  · have := (hr k e.symm).1
    omega

theorem scanAt_C {f : ByteArray → Option (ByteArray × ByteArray)} {pB pa pb : Nat} {w5 : World} (h1 : pB ≠ pa) (h2 : pB ≠ pb) (h3 : pa < w5.heap.size) (h4 : pb < w5.heap.size) (pre : List ByteArray) (A B : World) (hC : Keeps (fun k => k = pa ∨ k = pb) A B) (hs : ScanAt f pB pa pb w5 pre A) : ScanAt f pB pa pb w5 pre B := by
  obtain ⟨v, q1, q2, q3, q4⟩ := hs
  refine ⟨v, (hC.block pB (Array.getElem?_eq_some_iff.1 q1).1 (by rintro (e | e); exact h1 e; exact h2 e)).trans q1, q2.kept hC (fun g hg e => ?_), q3, q4.trans hC (fun k _ e => .inr e)⟩
  have := q3 g hg
  rcases e with e | e <;> omega

theorem scan_goesOn {f : ByteArray → Option (ByteArray × ByteArray)} {pB pa pb : Nat} {G : List Nat} {w5 W W4 : World} {v v' : Value} {pre : List ByteArray} {key : ByteArray} {e : TypeId} {m : Nat} {xs : List Value} (a : Act) (hB : pB < w5.heap.size) (hL : ∀ k ∈ pa :: pb :: G, k < w5.heap.size ∧ k ≠ pB)
    (hrow : Row W e 2 v m xs) (hown : ∀ g, v.ownBlock = some g → w5.heap.size ≤ g) (hkeep : Keeps (fun k => k = pB ∨ k = pa ∨ k = pb) w5 W) (hk : Keeps (fun k => k = pB ∨ some k = v.ownBlock) W W4)
    (hb4 : W4.heap[pB]? = some (.cells #[v'] 31 (0, 0))) (hr4 : Row W4 88 2 v' ((pre ++ [key]).filterMap f).length (((pre ++ [key]).filterMap f).flatMap pairCells)) (ho4 : ∀ g, v'.ownBlock = some g → w5.heap.size ≤ g) :
    goesOn w5.heap.size (KpM (pa :: pb :: G)) (ScanAt f pB pa pb w5) (pre ++ [key]) W .normal a W4 := by
  refine ⟨⟨hk.size, fun k o hBk hko hc => ?_⟩, ⟨hk.size, fun k hkG => ?_⟩, v', hb4, hr4, ho4, hkeep.trans hk (fun k hk' e => ?_)⟩
  · refine (hk.block k (Array.getElem?_eq_some_iff.1 hko).1 ?_).trans hko
    rintro (e | e)
    · omega
    · obtain ⟨cur, hcur⟩ := hrow.cellsAt e.symm
      rw [hcur] at hko
      cases hko
      cases hc
  · obtain ⟨l1, l2⟩ := hL k hkG
    refine hk.block k (Nat.lt_of_lt_of_le l1 hkeep.size) ?_
    rintro (e | e)
    · exact l2 e
    · have := hown k e.symm
      omega
  · rcases e with e | e
    · exact .inl e
    · have := hown k e.symm
      omega

theorem Tryz.infoPair : (Tryz.prog.info? 88).map (fun i => (i.zero, i.size, i.bytes)) = some (some (.agg #[.string ⟨#[]⟩, .string ⟨#[]⟩]), 2, 32) := by kernel_rfl

theorem pair_new (w : World) (x y : Value) (t : TypeId) : ∀ j u, [x, y][j]? = some u → (w.alloc (.cells #[x, y] t)).cell? ((⟨w.heap.size, 0, none⟩ : Addr).add j) = some u := by
  intro j u hj
  match j with
  | 0 => simp at hj; subst hj; simp [Addr.add, go_sem]
  | 1 => simp at hj; subst hj; simp [Addr.add, go_sem]
  | j + 2 => simp at hj

/-- A region that ends as it should. -/
theorem wpIn_normal {F : Fence} {m : Nat} {P : Program} {c : Code} {K : Act → World → Prop} {Q : Exit → Act → World → Prop} {a : Act} {w : World} (h : c.wpIn F m P (Exit.then K (fun _ _ _ => False)) a w) : c.wpIn F m P (Exit.then K Q) a w :=
  wpIn_mono h (fun e _ _ hq => by cases e <;> first | exact hq | exact hq.elim)

/-- What append leaves of the pairs. -/
structure ScanNew (W : World) (m : Nat) (av : Option Addr) (cv pB : Nat) (w5 : World) (g' cap' : Nat) (w' : World) (xs : List Value) : Prop where
  box : w'.heap[pB]? = some (.cells #[.slice av m cv] 31 (0, 0))
  row : Row (w'.setCell ⟨pB, 0, none⟩ (.slice (some ⟨g', 0, none⟩) (m + 1) cap')) 88 2 (.slice (some ⟨g', 0, none⟩) (m + 1) cap') (m + 1) xs
  own : ∀ g, (Value.slice (some ⟨g', 0, none⟩) (m + 1) cap').ownBlock = some g → w5.heap.size ≤ g
  keep : Keeps (fun k => k = pB ∨ some k = (Value.slice av m cv).ownBlock) W (w'.setCell ⟨pB, 0, none⟩ (.slice (some ⟨g', 0, none⟩) (m + 1) cap'))

theorem scan_new {W W1 w' w5 : World} {m cv pB pa pb g' cap' : Nat} {av : Option Addr} {xs : List Value} {o : Obj} (k1 : Keeps (fun _ => False) W W1) (hb : W.heap[pB]? = some (.cells #[.slice av m cv] 31 (0, 0))) (hown : ∀ g, (Value.slice av m cv).ownBlock = some g → w5.heap.size ≤ g)
    (hkeep : Keeps (fun k => k = pB ∨ k = pa ∨ k = pb) w5 W) (hr : Row w' 88 2 (.slice (some ⟨g', 0, none⟩) (m + 1) cap') (m + 1) xs) (hg : (W1.alloc o).grownBy w' (Value.slice av m cv).ownBlock)
    (ho : (Value.slice (some ⟨g', 0, none⟩) (m + 1) cap').ownBlock = (Value.slice av m cv).ownBlock ∨ (Value.slice (some ⟨g', 0, none⟩) (m + 1) cap').ownBlock = some (W1.alloc o).heap.size) (hB : pB < w5.heap.size) :
    ScanNew W m av cv pB w5 g' cap' w' xs := by
  have hz1 := k1.size
  have hz5 := hkeep.size
  have hne : some pB ≠ (Value.slice av m cv).ownBlock := fun e => by have := hown pB e.symm; omega
  have hkw : Keeps (fun k => some k = (Value.slice av m cv).ownBlock) W w' := ((k1.mono (fun _ _ h => h.elim)).al o).trans (Keeps.grown hg) (fun k _ e => e)
  have hbox : w'.heap[pB]? = some (.cells #[.slice av m cv] 31 (0, 0)) := (hkw.block pB (Array.getElem?_eq_some_iff.1 hb).1 hne).trans hb
  have hown' : ∀ g, (Value.slice (some ⟨g', 0, none⟩) (m + 1) cap').ownBlock = some g → w5.heap.size ≤ g := fun g hgv => by
    rcases ho with e | e
    · exact hown g (by rw [← e]; exact hgv)
    · rw [hgv] at e
      simp at e
      omega
  refine ⟨hbox, hr.kept (Keeps.setCell _ _ _) (fun g hgv e => ?_), hown', (hkw.mono (fun k _ e => .inr e)).trans (Keeps.setCell _ _ _) (fun k _ e => .inl e)⟩
  have h1 := hown' g hgv
  have e' : g = pB := e
  omega

/-- append, by what it comes to. -/
theorem wpListIn_append_run {F : Fence} {n : Nat} {P : Program} (w : World) {ops : Array Oper} {rest : List Oper} {o : Oper} {a : Act} {Q : Exit → Act → World → Prop} (hg : o.guard = none) (s x : Operand) (t : TypeId)
    (hop : o.op = Op.call { callee := Callee.builtin Builtin.append, args := #[s, x], argTypes := #[t, t] }) (v y v' : Value) (w' : World) (hs : a.eval s = v) (hx : a.eval x = y) (hrun : (Builtin.append_ #[t, t] o.type #[v, y]).run P w = .ok v' w')
    (hK : wpListIn F n P ops Q rest (a.put o.dst v') w') : wpListIn F n P ops Q (o :: rest) a w := by
  refine wpListIn_plain hg fun K hK' => ?_
  unfold Oper.wpIn
  refine ⟨?_, ?_⟩
  · simp [Oper.about, hop, resolve, Target.leads, Sem.run_pure]
  · rw [Oper.semAt_plain F _ _ (by rw [hop]; intro c hc'; cases hc')]
    simp [execOp, hop, resolve, invoke, builtin, hs, hx, hrun, Result.andThen]
    exact hK' _ _ hK

theorem four_new (w : World) (o1 o2 o3 o4 : Obj) : ((((w.alloc o1).alloc o2).alloc o3).alloc o4).heap[w.heap.size]? = some o1 ∧ ((((w.alloc o1).alloc o2).alloc o3).alloc o4).heap[w.heap.size + 1]? = some o2 ∧
    ((((w.alloc o1).alloc o2).alloc o3).alloc o4).heap[w.heap.size + 1 + 1]? = some o3 ∧ ((((w.alloc o1).alloc o2).alloc o3).alloc o4).heap[w.heap.size + 1 + 1 + 1]? = some o4 := by
  have n1 := heap_new w o1
  have n2 := heap_new (w.alloc o1) o2
  have n3 := heap_new ((w.alloc o1).alloc o2) o3
  have n4 := heap_new (((w.alloc o1).alloc o2).alloc o3) o4
  simp only [World.size_alloc] at n2 n3 n4
  refine ⟨?_, ?_, ?_, n4⟩
  · exact (Below.heap_alloc _ _ _ (by simp; omega)).trans ((Below.heap_alloc _ _ _ (by simp; omega)).trans ((Below.heap_alloc _ _ _ (by simp)).trans n1))
  · exact (Below.heap_alloc _ _ _ (by simp)).trans ((Below.heap_alloc _ _ _ (by simp)).trans n2)
  · exact (Below.heap_alloc _ _ _ (by simp)).trans n3

end Go.Proofs.YtgianpccgcjmjaaGreatDoor
