/- merged, walked. -/
import Derived.Test.YthgojidgaeimnaaU2
import Derived.Sort.AtCallIn
namespace Go.Proofs.Ythgojidgaeimnaa
open Go.RowKit Go.Shelf

attribute [local go_sem] Oper.semAt_some

/-- how long the slice in a box is -/
def boxLen (w : World) (p : Nat) : Nat := match w.cell? ⟨p, 0, none⟩ with
  | some (.slice _ n _) => n
  | _ => 0

/-- what a round keeps for the iterator -/
def KpM (G : List Nat) (A B : World) : Prop := A.heap.size ≤ B.heap.size ∧ ∀ k ∈ G, B.heap[k]? = A.heap[k]?

/-- what is left lies so -/
def MergeMem (G : List Nat) (pa pb : Nat) (a b pre : List ByteArray) (wr : World) : Prop :=
  ∃ va vb a' b', wr.heap[pa]? = some (.cells #[va] 32 (0, 0)) ∧ wr.heap[pb]? = some (.cells #[vb] 32 (0, 0)) ∧ Seg G wr va a' ∧ Seg G wr vb b' ∧ MergeAt a b a' b' pre

theorem merge_next {G : List Nat} {pa pb : Nat} {a b pre a2 b2 : List ByteArray} {w1 W4 : World} {x y va2 vb2 : Value} (hpa : pa ∉ G) (hpb : pb ∉ G) (hne : pa ≠ pb) (hG : ∀ k ∈ G, k < w1.heap.size)
    (d1 : w1.heap[pa]? = some (.cells #[x] 32 (0, 0))) (d2 : w1.heap[pb]? = some (.cells #[y] 32 (0, 0))) (t3 : Seg G w1 va2 a2) (t4 : Seg G w1 vb2 b2) (hst : MergeAt a b a2 b2 pre)
    (hk : KpM (pa :: pb :: G) (((w1.setCell ⟨pa, 0, none⟩ va2).setCell ⟨pb, 0, none⟩ vb2).drew) W4) : (MergeMem G pa pb a b pre W4 ∧ ∀ k ∈ G, k < W4.heap.size) ∧ W4.cell? ⟨pa, 0, none⟩ = some va2 ∧ W4.cell? ⟨pb, 0, none⟩ = some vb2 := by
  have p1 : (w1.setCell ⟨pa, 0, none⟩ va2).heap[pa]? = some (.cells #[va2] 32 (0, 0)) := by rw [heap_setCell_same d1]; rfl
  have p2 : (w1.setCell ⟨pa, 0, none⟩ va2).heap[pb]? = some (.cells #[y] 32 (0, 0)) := ((Keeps.setCell w1 ⟨pa, 0, none⟩ va2).block pb (Array.getElem?_eq_some_iff.1 d2).1 (fun e => hne e.symm)).trans d2
  have q2 : ((w1.setCell ⟨pa, 0, none⟩ va2).setCell ⟨pb, 0, none⟩ vb2).heap[pb]? = some (.cells #[vb2] 32 (0, 0)) := by rw [heap_setCell_same p2]; rfl
  have q1 : ((w1.setCell ⟨pa, 0, none⟩ va2).setCell ⟨pb, 0, none⟩ vb2).heap[pa]? = some (.cells #[va2] 32 (0, 0)) := ((Keeps.setCell _ ⟨pb, 0, none⟩ vb2).block pa (Array.getElem?_eq_some_iff.1 p1).1 hne).trans p1
  have r1 : W4.heap[pa]? = some (.cells #[va2] 32 (0, 0)) := (hk.2 pa (by simp)).trans q1
  have r2 : W4.heap[pb]? = some (.cells #[vb2] 32 (0, 0)) := (hk.2 pb (by simp)).trans q2
  have hsz : w1.heap.size ≤ W4.heap.size := by
    have h1 := (Keeps.setCell w1 ⟨pa, 0, none⟩ va2).size
    have h2 := (Keeps.setCell (w1.setCell ⟨pa, 0, none⟩ va2) ⟨pb, 0, none⟩ vb2).size
    have h3 : ((w1.setCell ⟨pa, 0, none⟩ va2).setCell ⟨pb, 0, none⟩ vb2).heap.size ≤ W4.heap.size := hk.1
    omega
  have hg : ∀ k ∈ G, W4.heap[k]? = w1.heap[k]? := fun k hkG => by
    have e1 : k ≠ pa := fun e => hpa (e ▸ hkG)
    have e2 : k ≠ pb := fun e => hpb (e ▸ hkG)
    refine (hk.2 k (by simp [hkG])).trans ?_
    exact ((Keeps.setCell (w1.setCell ⟨pa, 0, none⟩ va2) ⟨pb, 0, none⟩ vb2).block k (Nat.lt_of_lt_of_le (hG k hkG) (Keeps.setCell w1 ⟨pa, 0, none⟩ va2).size) e2).trans ((Keeps.setCell w1 ⟨pa, 0, none⟩ va2).block k (hG k hkG) e1)
  exact ⟨⟨⟨va2, vb2, a2, b2, r1, r2, t3.kept hg, t4.kept hg, hst⟩, fun k hkG => Nat.lt_of_lt_of_le (hG k hkG) hsz⟩, cell_of_heap r1 0, cell_of_heap r2 0⟩

set_option maxRecDepth 100000 in
set_option maxHeartbeats 1000000 in
theorem merged1_all (G : List Nat) (pa pb : Nat) (a b : List ByteArray) (w : World) (hpa : pa ∉ G) (hpb : pb ∉ G) (hne : pa ≠ pb) (hG : ∀ k ∈ G, k < w.heap.size) (h : MergeMem G pa pb a b [] w) :
    SeqAll Fence.wide 7 Try.prog 56 #[.pointer (some ⟨pa, 0, none⟩), .pointer (some ⟨pb, 0, none⟩)] (fun x : ByteArray => #[.string x]) (Keeps (fun k => k = pa ∨ k = pb)) (KpM (pa :: pb :: G)) (fun xs => MergeAt a b [] [] xs) (a.length + b.length) w := by
  intro l J W hW hJC hY h0
  have hM0 : MergeMem G pa pb a b [] W := by
    obtain ⟨va, vb, a', b', h1, h2, h3, h4, h5⟩ := h
    have hk : ∀ k ∈ G, W.heap[k]? = w.heap[k]? := fun k hk => hW.block k (hG k hk) (fun h => h)
    exact ⟨va, vb, a', b', (hW.block pa (Array.getElem?_eq_some_iff.1 h1).1 (fun h => h)).trans h1, (hW.block pb (Array.getElem?_eq_some_iff.1 h2).1 (fun h => h)).trans h2, h3.kept hk, h4.kept hk, h5⟩
  refine callsIn_of_wp Try.func56 rfl trivial ?_ rfl
  simp only [Try.ntmps56, List.size_toArray, List.length_cons, List.length_nil, Nat.reduceAdd, Nat.reduceSub, Array.replicate_succ, Array.replicate_zero, List.push_toArray, List.append_toArray, List.nil_append, List.cons_append]
  gi_wp2
  gi_loopw [4] (fun _ wr => ∃ pre, J pre wr ∧ MergeMem G pa pb a b pre wr ∧ ∀ k ∈ G, k < wr.heap.size) (fun _ wr => boxLen wr pa + boxLen wr pb)
  case atStart => exact ⟨[], h0, hM0, fun k hk => Nat.lt_of_lt_of_le (hG k hk) hW.size⟩
  case round =>
    obtain ⟨pre, hJ, ⟨va, vb, a', b', h1, h2, h3, h4, h5⟩, hGr⟩ := hrel
    clear hM0 h0 h hW
    obtain ⟨oa, ca, rfl⟩ := h3.form
    obtain ⟨ob, cb, rfl⟩ := h4.form
    by_cases hne' : a' = [] ∧ b' = []
    · obtain ⟨rfl, rfl⟩ := hne'
      have c1 := cell_of_heap h1 0
      have c2 := cell_of_heap h2 0
      have HJ := hid hJ
      have H5 := hid h5
      simp at c1 c2
      clear h1 h2 h3 h4 h5 hJ hJC hY
      gi_wp2
      go_end0
      exact ⟨⟨_, rfl⟩, pre, H5.out, HJ.out⟩
    · have hne2 : a' ≠ [] ∨ b' ≠ [] := by
        by_cases e : a' = []
        · exact .inr (fun e2 => hne' ⟨e, e2⟩)
        · exact .inl e
      have HLE := hid (least_any _ _ a' b' wr h3 h4 hne2)
      have HST := hid (h5.step hne2)
      have HLS := hid (merge_less a' b' hne2)
      have HLN : Hid (pre.length < a.length + b.length) := by
        have h8 := h5.len
        have h9 := merge_less a' b' hne2
        show _ < _
        omega
      generalize leastL a' b' = key at HLE HST HLS
      have c1 := cell_of_heap h1 0
      have c2 := cell_of_heap h2 0
      simp at c1 c2
      have H1 := hid h1
      have H2 := hid h2
      have H3 := hid h3
      have H4 := hid h4
      have HJ := hid hJ
      have HJC := hid hJC
      have HY := hid hY
      have hcase : (0 < a'.length) ∨ (a'.length = 0 ∧ 0 < b'.length) := by
        rcases Nat.eq_zero_or_pos a'.length with e | e
        · right
          refine ⟨e, ?_⟩
          have : b'.length ≠ 0 := fun e2 => hne' ⟨List.eq_nil_of_length_eq_zero e, List.eq_nil_of_length_eq_zero e2⟩
          omega
        · left; exact e
      have HGL : Hid (∀ k ∈ G, k < wr.heap.size) := hGr
      clear h1 h2 h3 h4 h5 hJ hJC hY hne' hne2 hGr
      generalize hna : a'.length = na at HLE H1 H2 H3 H4 c1 c2 hcase
      have HNA := hid hna
      clear hna
      rcases hcase with hca | ⟨hca, hcb⟩
      · gi_wp2_with (refine ⟨trivial, ?_⟩; gi_at_call 57; go_must (refine (callsIn_wide.2 HLE.out).mono ?_; rintro e w1 ⟨rfl, k1⟩; have d1 := (k1.block pa (Array.getElem?_eq_some_iff.1 H1.out).1 (fun h => h)).trans H1.out; have d2 := (k1.block pb (Array.getElem?_eq_some_iff.1 H2.out).1 (fun h => h)).trans H2.out; have e1 := cell_of_heap d1 0; have e2 := cell_of_heap d2 0; have f1 := frozen_of_heap d1 0; have f2 := frozen_of_heap d2 0; simp at e1 e2; have D1 := hid d1; have D2 := hid d2; have K1 := hid k1; clear d1 d2 k1 c1 c2))
        obtain ⟨va2, hva2⟩ : ∃ v, v = behindV (.slice oa na ca) (hitB a' key) := ⟨_, rfl⟩
        obtain ⟨vb2, hvb2⟩ : ∃ v, v = behindV (.slice ob b'.length cb) (hitB b' key) := ⟨_, rfl⟩
        have hGk : ∀ k ∈ G, w1.heap[k]? = wr.heap[k]? := fun k hk => K1.out.block k (HGL.out k hk) (fun h => h)
        have S3 := hid (H3.out.kept hGk)
        have S4 := hid (H4.out.kept hGk)
        have HBA : Hid (∀ W, (∀ k ∈ G, W.heap[k]? = w1.heap[k]?) → Calls Try.prog 58 #[.slice oa na ca, .string key] W fun e w' => e = .returned va2 ∧ w' = W) := fun W hk => by have := behind_any _ key a' W (S3.out.kept hk); rwa [← hva2] at this
        have HBB : Hid (∀ W, (∀ k ∈ G, W.heap[k]? = w1.heap[k]?) → Calls Try.prog 58 #[.slice ob b'.length cb, .string key] W fun e w' => e = .returned vb2 ∧ w' = W) := fun W hk => by have := behind_any _ key b' W (S4.out.kept hk); rwa [← hvb2] at this
        have T3 := hid (S3.out.behind key)
        have T4 := hid (S4.out.behind key)
        rw [← hva2] at T3
        rw [← hvb2] at T4
        clear hva2 hvb2 hGk
        obtain ⟨oa2, ca2, rfl⟩ := T3.out.form
        obtain ⟨ob2, cb2, rfl⟩ := T4.out.form
        have HKW : Hid (Keeps (fun k => k = pa ∨ k = pb) wr (((w1.setCell ⟨pa, 0, none⟩ (.slice oa2 (behindL a' key).length ca2)).setCell ⟨pb, 0, none⟩ (.slice ob2 (behindL b' key).length cb2)).drew)) := (((K1.out.mono (fun _ _ h => h.elim)).trans (Keeps.setCell _ _ _) (fun k _ e => .inl e)).trans (Keeps.setCell _ _ _) (fun k _ e => .inr e)).dr
        have HY3 := hid (HY.out pre key _ (HJC.out pre wr _ HKW.out HJ.out) HLN.out)
        have HGW : Hid (∀ k ∈ G, k < w1.heap.size) := fun k hk => Nat.lt_of_lt_of_le (HGL.out k hk) K1.out.size
        have hm1 : boxLen wr pa + boxLen wr pb = a'.length + b'.length := by rw [HNA.out]; simp [boxLen, cell_of_heap H1.out 0, cell_of_heap H2.out 0]
        have HM1 := hid hm1
        clear hm1
        gi_region_with (first
          | (refine ⟨trivial, ?_⟩; gi_at_call_has 58 (Value.slice oa na ca); go_must (refine (callsIn_wide.2 (HBA.out w1.drew (fun _ _ => rfl))).mono ?_; rintro e wz ⟨rfl, rfl⟩))
          | (refine ⟨trivial, ?_⟩; gi_at_call_has 58 (Value.slice ob b'.length cb); go_must (refine (callsIn_wide.2 (HBB.out w1.drew (fun _ _ => rfl))).mono ?_; rintro e wz ⟨rfl, rfl⟩)))
        all_goals
          obtain ⟨fn, tmps, assign, body, hy, hR⟩ := HY3.out
          clear HY3 HY HJC HBA HBB HLE
          gi_wp2
          refine hR.mono ?_
          rintro e W4 ⟨rfl, hJ4, hk4⟩
          obtain ⟨hmem, x1, x2⟩ := merge_next hpa hpb hne HGW.out D1.out D2.out T3.out T4.out HST.out hk4
          have HMEM := hid hmem
          have HJ4 := hid hJ4
          have hm4 : boxLen W4 pa + boxLen W4 pb = (behindL a' key).length + (behindL b' key).length := by simp [boxLen, x1, x2]
          have HM4 := hid hm4
          clear hmem hJ4 hk4 hm4 hy hR x1 x2 e1 e2 f1 f2
          gi_wp2
          exact ⟨⟨pre ++ [key], HJ4.out, HMEM.out⟩, by rw [HM1.out, HM4.out]; exact HLS.out⟩
      · subst hca
        gi_wp2_with (refine ⟨trivial, ?_⟩; gi_at_call 57; go_must (refine (callsIn_wide.2 HLE.out).mono ?_; rintro e w1 ⟨rfl, k1⟩; have d1 := (k1.block pa (Array.getElem?_eq_some_iff.1 H1.out).1 (fun h => h)).trans H1.out; have d2 := (k1.block pb (Array.getElem?_eq_some_iff.1 H2.out).1 (fun h => h)).trans H2.out; have e1 := cell_of_heap d1 0; have e2 := cell_of_heap d2 0; have f1 := frozen_of_heap d1 0; have f2 := frozen_of_heap d2 0; simp at e1 e2; have D1 := hid d1; have D2 := hid d2; have K1 := hid k1; clear d1 d2 k1 c1 c2))
        obtain ⟨va2, hva2⟩ : ∃ v, v = behindV (.slice oa 0 ca) (hitB a' key) := ⟨_, rfl⟩
        obtain ⟨vb2, hvb2⟩ : ∃ v, v = behindV (.slice ob b'.length cb) (hitB b' key) := ⟨_, rfl⟩
        have hGk : ∀ k ∈ G, w1.heap[k]? = wr.heap[k]? := fun k hk => K1.out.block k (HGL.out k hk) (fun h => h)
        have S3 := hid (H3.out.kept hGk)
        have S4 := hid (H4.out.kept hGk)
        have HBA : Hid (∀ W, (∀ k ∈ G, W.heap[k]? = w1.heap[k]?) → Calls Try.prog 58 #[.slice oa 0 ca, .string key] W fun e w' => e = .returned va2 ∧ w' = W) := fun W hk => by have := behind_any _ key a' W (S3.out.kept hk); rwa [← hva2] at this
        have HBB : Hid (∀ W, (∀ k ∈ G, W.heap[k]? = w1.heap[k]?) → Calls Try.prog 58 #[.slice ob b'.length cb, .string key] W fun e w' => e = .returned vb2 ∧ w' = W) := fun W hk => by have := behind_any _ key b' W (S4.out.kept hk); rwa [← hvb2] at this
        have T3 := hid (S3.out.behind key)
        have T4 := hid (S4.out.behind key)
        rw [← hva2] at T3
        rw [← hvb2] at T4
        clear hva2 hvb2 hGk
        obtain ⟨oa2, ca2, rfl⟩ := T3.out.form
        obtain ⟨ob2, cb2, rfl⟩ := T4.out.form
        have HKW : Hid (Keeps (fun k => k = pa ∨ k = pb) wr (((w1.setCell ⟨pa, 0, none⟩ (.slice oa2 (behindL a' key).length ca2)).setCell ⟨pb, 0, none⟩ (.slice ob2 (behindL b' key).length cb2)).drew)) := (((K1.out.mono (fun _ _ h => h.elim)).trans (Keeps.setCell _ _ _) (fun k _ e => .inl e)).trans (Keeps.setCell _ _ _) (fun k _ e => .inr e)).dr
        have HY3 := hid (HY.out pre key _ (HJC.out pre wr _ HKW.out HJ.out) HLN.out)
        have HGW : Hid (∀ k ∈ G, k < w1.heap.size) := fun k hk => Nat.lt_of_lt_of_le (HGL.out k hk) K1.out.size
        have hm1 : boxLen wr pa + boxLen wr pb = a'.length + b'.length := by rw [HNA.out]; simp [boxLen, cell_of_heap H1.out 0, cell_of_heap H2.out 0]
        have HM1 := hid hm1
        clear hm1
        gi_region_with (first
          | (refine ⟨trivial, ?_⟩; gi_at_call_has 58 (Value.slice oa 0 ca); go_must (refine (callsIn_wide.2 (HBA.out w1.drew (fun _ _ => rfl))).mono ?_; rintro e wz ⟨rfl, rfl⟩))
          | (refine ⟨trivial, ?_⟩; gi_at_call_has 58 (Value.slice ob b'.length cb); go_must (refine (callsIn_wide.2 (HBB.out w1.drew (fun _ _ => rfl))).mono ?_; rintro e wz ⟨rfl, rfl⟩)))
        all_goals
          obtain ⟨fn, tmps, assign, body, hy, hR⟩ := HY3.out
          clear HY3 HY HJC HBA HBB HLE
          gi_wp2
          refine hR.mono ?_
          rintro e W4 ⟨rfl, hJ4, hk4⟩
          obtain ⟨hmem, x1, x2⟩ := merge_next hpa hpb hne HGW.out D1.out D2.out T3.out T4.out HST.out hk4
          have HMEM := hid hmem
          have HJ4 := hid hJ4
          have hm4 : boxLen W4 pa + boxLen W4 pb = (behindL a' key).length + (behindL b' key).length := by simp [boxLen, x1, x2]
          have HM4 := hid hm4
          clear hmem hJ4 hk4 hm4 hy hR x1 x2 e1 e2 f1 f2
          gi_wp2
          exact ⟨⟨pre ++ [key], HJ4.out, HMEM.out⟩, by rw [HM1.out, HM4.out]; exact HLS.out⟩

end Go.Proofs.Ythgojidgaeimnaa
