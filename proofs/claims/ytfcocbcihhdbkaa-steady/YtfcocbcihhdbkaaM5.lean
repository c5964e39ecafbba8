import Derived.Test.YtfcocbcihhdbkaaM4
import Derived.Sort.AtCallIn

/- merged, walked. -/
namespace Go.Proofs.Ytfcocbcihhdbkaa
open Go.RowKit Go.Shelf

attribute [local go_sem] Oper.semAt_some

/-- how long the slice in a box is -/
def boxLen (w : World) (p : Nat) : Nat := match w.cell? ⟨p, 0, none⟩ with
  | some (.slice _ n _) => n
  | _ => 0

/-- what a round keeps for the iterator -/
def KpM (G : List Nat) (A B : World) : Prop := A.heap.size ≤ B.heap.size ∧ ∀ k ∈ G, B.heap[k]? = A.heap[k]?

/-- what is left lies so -/
def MergeMem (G : List Nat) (pa pb : Nat) (a b pre : List ByteArray) (wr : World) : Prop :=
  ∃ va vb a' b', wr.heap[pa]? = some (.cells #[va] 32 (0, 0)) ∧ wr.heap[pb]? = some (.cells #[vb] 32 (0, 0)) ∧ Seg G wr va a' ∧ Seg G wr vb b' ∧ MergeAt a b a' b' pre

theorem merge_next {G : List Nat} {pa pb : Nat} {a b pre a2 b2 : List ByteArray} {w1 W4 : World} {x y va2 vb2 : Value} (hpa : pa ∉ G) (hpb : pb ∉ G) (hne : pa ≠ pb) (hG : ∀ k ∈ G, k < w1.heap.size)
    (d1 : w1.heap[pa]? = some (.cells #[x] 32 (0, 0))) (d2 : w1.heap[pb]? = some (.cells #[y] 32 (0, 0))) (t3 : Seg G w1 va2 a2) (t4 : Seg G w1 vb2 b2) (hst : MergeAt a b a2 b2 pre)
    (hk : KpM (pa :: pb :: G) (((w1.setCell ⟨pa, 0, none⟩ va2).setCell ⟨pb, 0, none⟩ vb2).drew) W4) : (MergeMem G pa pb a b pre W4 ∧ ∀ k ∈ G, k < W4.heap.size) ∧ W4.cell? ⟨pa, 0, none⟩ = some va2 ∧ W4.cell? ⟨pb, 0, none⟩ = some vb2 := by
  have p1 : (w1.setCell ⟨pa, 0, none⟩ va2).heap[pa]? = some (.cells #[va2] 32 (0, 0)) := by rw [heap_setCell_same d1]; rfl
  have p2 : (w1.setCell ⟨pa, 0, none⟩ va2).heap[pb]? = some (.cells #[y] 32 (0, 0)) := ((Keeps.setCell w1 ⟨pa, 0, none⟩ va2).block pb (Array.getElem?_eq_some_iff.1 d2).1 (fun e => hne e.symm)).trans d2
  have q2 : ((w1.setCell ⟨pa, 0, none⟩ va2).setCell ⟨pb, 0, none⟩ vb2).heap[pb]? = some (.cells #[vb2] 32 (0, 0)) := by rw [heap_setCell_same p2]; rfl
  have q1 : ((w1.setCell ⟨pa, 0, none⟩ va2).setCell ⟨pb, 0, none⟩ vb2).heap[pa]? = some (.cells #[va2] 32 (0, 0)) := ((Keeps.setCell _ ⟨pb, 0, none⟩ vb2).block pa (Array.getElem?_eq_some_iff.1 p1).1 hne).trans p1
  have r1 : W4.heap[pa]? = some (.cells #[va2] 32 (0, 0)) := (hk.2 pa (by simp)).trans q1
  have r2 : W4.heap[pb]? = some (.cells #[vb2] 32 (0, 0)) := (hk.2 pb (by simp)).trans q2
  have hsz : w1.heap.size ≤ W4.heap.size := by
    have h1 := (Keeps.setCell w1 ⟨pa, 0, none⟩ va2).size
    have h2 := (Keeps.setCell (w1.setCell ⟨pa, 0, none⟩ va2) ⟨pb, 0, none⟩ vb2).size
    have h3 : ((w1.setCell ⟨pa, 0, none⟩ va2).setCell ⟨pb, 0, none⟩ vb2).heap.size ≤ W4.heap.size := hk.1
    omega
  have hg : ∀ k ∈ G, W4.heap[k]? = w1.heap[k]? := fun k hkG => by
    have e1 : k ≠ pa := fun e => hpa (e ▸ hkG)
    have e2 : k ≠ pb := fun e => hpb (e ▸ hkG)
    refine (hk.2 k (by simp [hkG])).trans ?_
    exact ((Keeps.setCell (w1.setCell ⟨pa, 0, none⟩ va2) ⟨pb, 0, none⟩ vb2).block k (Nat.lt_of_lt_of_le (hG k hkG) (Keeps.setCell w1 ⟨pa, 0, none⟩ va2).size) e2).trans ((Keeps.setCell w1 ⟨pa, 0, none⟩ va2).block k (hG k hkG) e1)
  exact ⟨⟨⟨va2, vb2, a2, b2, r1, r2, t3.kept hg, t4.kept hg, hst⟩, fun k hkG => Nat.lt_of_lt_of_le (hG k hkG) hsz⟩, cell_of_heap r1 0, cell_of_heap r2 0⟩

set_option maxRecDepth 100000 in
set_option maxHeartbeats 1000000 in
theorem merged1_all (G : List Nat) (pa pb : Nat) (a b : List ByteArray) (w : World) (hpa : pa ∉ G) (hpb : pb ∉ G) (hne : pa ≠ pb) (hG : ∀ k ∈ G, k < w.heap.size) (h : MergeMem G pa pb a b [] w) :
    SeqAll Fence.wide 7 Try.prog 54 #[.pointer (some ⟨pa, 0, none⟩), .pointer (some ⟨pb, 0, none⟩)] (fun x : ByteArray => #[.string x]) (Keeps (fun k => k = pa ∨ k = pb)) (KpM (pa :: pb :: G)) (fun xs => MergeAt a b [] [] xs) (a.length + b.length) w := by
  intro l J W hW hJC hY h0
  have hM0 : MergeMem G pa pb a b [] W := by
    obtain ⟨va, vb, a', b', h1, h2, h3, h4, h5⟩ := h
    have hk : ∀ k ∈ G, W.heap[k]? = w.heap[k]? := fun k hk => hW.block k (hG k hk) (fun h => h)
    exact ⟨va, vb, a', b', (hW.block pa (Array.getElem?_eq_some_iff.1 h1).1 (fun h => h)).trans h1, (hW.block pb (Array.getElem?_eq_some_iff.1 h2).1 (fun h => h)).trans h2, h3.kept hk, h4.kept hk, h5⟩
  refine callsIn_of_wp Try.func54 rfl trivial ?_ rfl
  simp only [Try.ntmps54, List.size_toArray, List.length_cons, List.length_nil, Nat.reduceAdd, Nat.reduceSub, Array.replicate_succ, Array.replicate_zero, List.push_toArray, List.append_toArray, List.nil_append, List.cons_append]
  gi_wp2
  gi_loopw [4] (fun _ wr => ∃ pre, J pre wr ∧ MergeMem G pa pb a b pre wr ∧ ∀ k ∈ G, k < wr.heap.size) (fun _ wr => boxLen wr pa + boxLen wr pb)
  case atStart => exact ⟨[], h0, hM0, fun k hk => Nat.lt_of_lt_of_le (hG k hk) hW.size⟩
  case round =>
    obtain ⟨pre, hJ, ⟨va, vb, a', b', h1, h2, h3, h4, h5⟩, hGr⟩ := hrel
    clear hM0 h0 h hW
    obtain ⟨oa, ca, rfl⟩ := h3.form
    obtain ⟨ob, cb, rfl⟩ := h4.form
    by_cases hne' : a' = [] ∧ b' = []
    · obtain ⟨rfl, rfl⟩ := hne'
      have c1 := cell_of_heap h1 0
      have c2 := cell_of_heap h2 0
      have HJ := hid hJ
      have H5 := hid h5
      simp at c1 c2
      clear h1 h2 h3 h4 h5 hJ hJC hY
      gi_wp2
      go_end0
      exact ⟨⟨_, rfl⟩, pre, H5.out, HJ.out⟩
    · have hne2 : a' ≠ [] ∨ b' ≠ [] := by
        by_cases e : a' = []
        · exact .inr (fun e2 => hne' ⟨e, e2⟩)
        · exact .inl e
      have HLE := hid (least_any _ _ a' b' wr h3 h4 hne2)
      have HST := hid (h5.step hne2)
      have HLS := hid (merge_less a' b' hne2)
      have HLN : Hid (pre.length < a.length + b.length) := by
        have h8 := h5.len
        have h9 := merge_less a' b' hne2
        show _ < _
        omega
      generalize leastL a' b' = key at HLE HST HLS
      have c1 := cell_of_heap h1 0
      have c2 := cell_of_heap h2 0
      simp at c1 c2
      have H1 := hid h1
      have H2 := hid h2
      have H3 := hid h3
      have H4 := hid h4
      have HJ := hid hJ
      have HJC := hid hJC
      have HY := hid hY
      have hcase : (0 < a'.length) ∨ (a'.length = 0 ∧ 0 < b'.length) := by
        rcases Nat.eq_zero_or_pos a'.length with e | e
        · right
          refine ⟨e, ?_⟩
          have : b'.length ≠ 0 := fun e2 => hne' ⟨List.eq_nil_of_length_eq_zero e, List.eq_nil_of_length_eq_zero e2⟩
          omega
        · left; exact e
      have HGL : Hid (∀ k ∈ G, k < wr.heap.size) := hGr
      clear h1 h2 h3 h4 h5 hJ hJC hY hne' hne2 hGr
      generalize hna : a'.length = na at HLE H1 H2 H3 H4 c1 c2 hcase
      have HNA := hid hna
      clear hna
      rcases hcase with hca | ⟨hca, hcb⟩
      · gi_wp2_with (refine ⟨trivial, ?_⟩; gi_at_call 55; go_must (refine (callsIn_wide.2 HLE.out).mono ?_; rintro e w1 ⟨rfl, k1⟩; have d1 := (k1.block pa (Array.getElem?_eq_some_iff.1 H1.out).1 (fun h => h)).trans H1.out; have d2 := (k1.block pb (Array.getElem?_eq_some_iff.1 H2.out).1 (fun h => h)).trans H2.out; have e1 := cell_of_heap d1 0; have e2 := cell_of_heap d2 0; have f1 := frozen_of_heap d1 0; have f2 := frozen_of_heap d2 0; simp at e1 e2; have D1 := hid d1; have D2 := hid d2; have K1 := hid k1; clear d1 d2 k1 c1 c2))
        obtain ⟨va2, hva2⟩ : ∃ v, v = behindV (.slice oa na ca) (hitB a' key) := ⟨_, rfl⟩
        obtain ⟨vb2, hvb2⟩ : ∃ v, v = behindV (.slice ob b'.length cb) (hitB b' key) := ⟨_, rfl⟩
        have hGk : ∀ k ∈ G, w1.heap[k]? = wr.heap[k]? := fun k hk => K1.out.block k (HGL.out k hk) (fun h => h)
        have S3 := hid (H3.out.kept hGk)
        have S4 := hid (H4.out.kept hGk)
        have HBA : Hid (∀ W, (∀ k ∈ G, W.heap[k]? = w1.heap[k]?) → Calls Try.prog 56 #[.slice oa na ca, .string key] W fun e w' => e = .returned va2 ∧ w' = W) := fun W hk => by have := behind_any _ key a' W (S3.out.kept hk); rwa [← hva2] at this
        have HBB : Hid (∀ W, (∀ k ∈ G, W.heap[k]? = w1.heap[k]?) → Calls Try.prog 56 #[.slice ob b'.length cb, .string key] W fun e w' => e = .returned vb2 ∧ w' = W) := fun W hk => by have := behind_any _ key b' W (S4.out.kept hk); rwa [← hvb2] at this
        have T3 := hid (S3.out.behind key)
        have T4 := hid (S4.out.behind key)
        rw [← hva2] at T3
        rw [← hvb2] at T4
        clear hva2 hvb2 hGk
        obtain ⟨oa2, ca2, rfl⟩ := T3.out.form
        obtain ⟨ob2, cb2, rfl⟩ := T4.out.form
        have HKW : Hid (Keeps (fun k => k = pa ∨ k = pb) wr (((w1.setCell ⟨pa, 0, none⟩ (.slice oa2 (behindL a' key).length ca2)).setCell ⟨pb, 0, none⟩ (.slice ob2 (behindL b' key).length cb2)).drew)) := (((K1.out.mono (fun _ _ h => h.elim)).trans (Keeps.setCell _ _ _) (fun k _ e => .inl e)).trans (Keeps.setCell _ _ _) (fun k _ e => .inr e)).dr
        have HY3 := hid (HY.out pre key _ (HJC.out pre wr _ HKW.out HJ.out) HLN.out)
        have HGW : Hid (∀ k ∈ G, k < w1.heap.size) := fun k hk => Nat.lt_of_lt_of_le (HGL.out k hk) K1.out.size
        have hm1 : boxLen wr pa + boxLen wr pb = a'.length + b'.length := by rw [HNA.out]; simp [boxLen, cell_of_heap H1.out 0, cell_of_heap H2.out 0]
        have HM1 := hid hm1
        clear hm1
        gi_region_with (first
          | (refine ⟨trivial, ?_⟩; gi_at_call_has 56 (Value.slice oa na ca); go_must (refine (callsIn_wide.2 (HBA.out w1.drew (fun _ _ => rfl))).mono ?_; rintro e wz ⟨rfl, rfl⟩))
          | (refine ⟨trivial, ?_⟩; gi_at_call_has 56 (Value.slice ob b'.length cb); go_must (refine (callsIn_wide.2 (HBB.out w1.drew (fun _ _ => rfl))).mono ?_; rintro e wz ⟨rfl, rfl⟩)))
        all_goals
          obtain ⟨fn, tmps, assign, body, hy, hR⟩ := HY3.out
          clear HY3 HY HJC HBA HBB HLE
          gi_wp2
          refine hR.mono ?_
          rintro e W4 ⟨rfl, hJ4, hk4⟩
          obtain ⟨hmem, x1, x2⟩ := merge_next hpa hpb hne HGW.out D1.out D2.out T3.out T4.out HST.out hk4
          have HMEM := hid hmem
          have HJ4 := hid hJ4
          have hm4 : boxLen W4 pa + boxLen W4 pb = (behindL a' key).length + (behindL b' key).length := by simp [boxLen, x1, x2]
          have HM4 := hid hm4
          clear hmem hJ4 hk4 hm4 hy hR x1 x2 e1 e2 f1 f2
          gi_wp2
          exact ⟨⟨pre ++ [key], HJ4.out, HMEM.out⟩, by rw [HM1.out, HM4.out]; exact HLS.out⟩
      · subst hca
        gi_wp2_with (refine ⟨trivial, ?_⟩; gi_at_call 55; go_must (refine (callsIn_wide.2 HLE.out).mono ?_; rintro e w1 ⟨rfl, k1⟩; have d1 := (k1.block pa (Array.getElem?_eq_some_iff.1 H1.out).1 (fun h => h)).trans H1.out; have d2 := (k1.block pb (Array.getElem?_eq_some_iff.1 H2.out).1 (fun h => h)).trans H2.out; have e1 := cell_of_heap d1 0; have e2 := cell_of_heap d2 0; have f1 := frozen_of_heap d1 0; have f2 := frozen_of_heap d2 0; simp at e1 e2; have D1 := hid d1; have D2 := hid d2; have K1 := hid k1; clear d1 d2 k1 c1 c2))
        obtain ⟨va2, hva2⟩ : ∃ v, v = behindV (.slice oa 0 ca) (hitB a' key) := ⟨_, rfl⟩
        obtain ⟨vb2, hvb2⟩ : ∃ v, v = behindV (.slice ob b'.length cb) (hitB b' key) := ⟨_, rfl⟩
        have hGk : ∀ k ∈ G, w1.heap[k]? = wr.heap[k]? := fun k hk => K1.out.block k (HGL.out k hk) (fun h => h)
        have S3 := hid (H3.out.kept hGk)
        have S4 := hid (H4.out.kept hGk)
        have HBA : Hid (∀ W, (∀ k ∈ G, W.heap[k]? = w1.heap[k]?) → Calls Try.prog 56 #[.slice oa 0 ca, .string key] W fun e w' => e = .returned va2 ∧ w' = W) := fun W hk => by have := behind_any _ key a' W (S3.out.kept hk); rwa [← hva2] at this
        have HBB : Hid (∀ W, (∀ k ∈ G, W.heap[k]? = w1.heap[k]?) → Calls Try.prog 56 #[.slice ob b'.length cb, .string key] W fun e w' => e = .returned vb2 ∧ w' = W) := fun W hk => by have := behind_any _ key b' W (S4.out.kept hk); rwa [← hvb2] at this
        have T3 := hid (S3.out.behind key)
        have T4 := hid (S4.out.behind key)
        rw [← hva2] at T3
        rw [← hvb2] at T4
        clear hva2 hvb2 hGk
        obtain ⟨oa2, ca2, rfl⟩ := T3.out.form
        obtain ⟨ob2, cb2, rfl⟩ := T4.out.form
        have HKW : Hid (Keeps (fun k => k = pa ∨ k = pb) wr (((w1.setCell ⟨pa, 0, none⟩ (.slice oa2 (behindL a' key).length ca2)).setCell ⟨pb, 0, none⟩ (.slice ob2 (behindL b' key).length cb2)).drew)) := (((K1.out.mono (fun _ _ h => h.elim)).trans (Keeps.setCell _ _ _) (fun k _ e => .inl e)).trans (Keeps.setCell _ _ _) (fun k _ e => .inr e)).dr
        have HY3 := hid (HY.out pre key _ (HJC.out pre wr _ HKW.out HJ.out) HLN.out)
        have HGW : Hid (∀ k ∈ G, k < w1.heap.size) := fun k hk => Nat.lt_of_lt_of_le (HGL.out k hk) K1.out.size
        have hm1 : boxLen wr pa + boxLen wr pb = a'.length + b'.length := by rw [HNA.out]; simp [boxLen, cell_of_heap H1.out 0, cell_of_heap H2.out 0]
        have HM1 := hid hm1
        clear hm1
        gi_region_with (first
          | (refine ⟨trivial, ?_⟩; gi_at_call_has 56 (Value.slice oa 0 ca); go_must (refine (callsIn_wide.2 (HBA.out w1.drew (fun _ _ => rfl))).mono ?_; rintro e wz ⟨rfl, rfl⟩))
          | (refine ⟨trivial, ?_⟩; gi_at_call_has 56 (Value.slice ob b'.length cb); go_must (refine (callsIn_wide.2 (HBB.out w1.drew (fun _ _ => rfl))).mono ?_; rintro e wz ⟨rfl, rfl⟩)))
        all_goals
          obtain ⟨fn, tmps, assign, body, hy, hR⟩ := HY3.out
          clear HY3 HY HJC HBA HBB HLE
          gi_wp2
          refine hR.mono ?_
          rintro e W4 ⟨rfl, hJ4, hk4⟩
          obtain ⟨hmem, x1, x2⟩ := merge_next hpa hpb hne HGW.out D1.out D2.out T3.out T4.out HST.out hk4
          have HMEM := hid hmem
          have HJ4 := hid hJ4
          have hm4 : boxLen W4 pa + boxLen W4 pb = (behindL a' key).length + (behindL b' key).length := by simp [boxLen, x1, x2]
          have HM4 := hid hm4
          clear hmem hJ4 hk4 hm4 hy hR x1 x2 e1 e2 f1 f2
          gi_wp2
          exact ⟨⟨pre ++ [key], HJ4.out, HMEM.out⟩, by rw [HM1.out, HM4.out]; exact HLS.out⟩

end Go.Proofs.Ytfcocbcihhdbkaa

/- The keys that have versions, from the first on; two lists merged. -/
namespace Go.Proofs.Ytfcocbcihhdbkaa
open Go.RowKit Go.Shelf

theorem Row.seg {G : List Nat} {w : World} {v : Value} {ks : List ByteArray} (h : Row w 9 1 v ks.length (ks.map Value.string)) (hG : ∀ g, v.ownBlock = some g → g ∈ G) : Seg G w v ks := by
  rcases h.2 with ⟨rfl, e⟩ | ⟨g, cap, cur, rfl, hh, h1, h2, h3, h4⟩
  · exact .inl ⟨List.eq_nil_of_length_eq_zero e, none, 0, rfl⟩
  · refine .inr ⟨g, 0, cap, hG g rfl, rfl, h1, h2, fun i hi => ?_⟩
    rw [Nat.zero_add, h.cellAt i (by omega)]
    simp [hi]

/-- the slice of the keys, cut off at its end -/
def keysV (v : Value) : Value :=
  match v with
  | .slice a n _ => .slice a n n
  | v => v

theorem seg_keysV {G : List Nat} {w : World} {v : Value} {ks : List ByteArray} (h : Row w 9 1 v ks.length (ks.map Value.string)) (hG : ∀ g, v.ownBlock = some g → g ∈ G) : Seg G w (keysV v) ks := by
  rcases h.2 with ⟨rfl, e⟩ | ⟨g, cap, cur, rfl, hh, h1, h2, h3, h4⟩
  · exact .inl ⟨List.eq_nil_of_length_eq_zero e, none, 0, rfl⟩
  · refine .inr ⟨g, 0, ks.length, hG g rfl, rfl, Nat.le_refl _, by omega, fun i hi => ?_⟩
    rw [Nat.zero_add, h.cellAt i (by omega)]
    simp [hi]

set_option maxRecDepth 100000 in
set_option maxHeartbeats 800000 in
theorem pastKeys_any (R : Rep) (w : World) (h : StoreAt w R) (hr : Rises R.keys) (hl : R.keys.length < 1000000000000) :
    Calls Try.prog 37 #[.pointer (some ⟨R.sb, 7, none⟩), .string ⟨#[]⟩] w fun e w' => e = .returned (keysV R.kv) ∧ Keeps (fun _ => False) w w' := by
  have hs := search_keys R.kv R.keys ⟨#[]⟩ w h.past.keysRow hr (by omega)
  rw [below_empty] at hs
  have c5 : w.cell? ⟨R.sb, 7, none⟩ = some R.kv := h.cell 7
  have HS := hid hs
  rcases h.past.keysRow.2 with ⟨e, en⟩ | ⟨g, cap, cur, e, hh, h1, h2, h3, h4⟩
  · rw [e] at c5 HS ⊢
    simp only [keysV]
    clear h hs e en
    generalize memB R.keys ⟨#[]⟩ = m at HS
    simp only [Int.natCast_zero] at HS
    go_enter Try.func37, Try.ntmps37
    go_wp2_with (go_at_call 57; go_must (refine (HS.out).mono ?_; rintro e w1 ⟨rfl, k1⟩; have d5 := k1.cell (p := ⟨R.sb, 7, none⟩) c5 (fun h => h)))
    go_region
    go_wp2
    go_ret
    exact ⟨rfl, k1.dr⟩
  · rw [e] at c5 HS ⊢
    simp only [keysV]
    clear h hs e hh h3 h4
    generalize memB R.keys ⟨#[]⟩ = m at HS
    generalize R.keys.length = n at *
    unfold maxLen at h2
    simp only [Int.natCast_zero] at HS
    go_enter Try.func37, Try.ntmps37
    go_wp2_with (go_at_call 57; go_must (refine (HS.out).mono ?_; rintro e w1 ⟨rfl, k1⟩; have d5 := k1.cell (p := ⟨R.sb, 7, none⟩) c5 (fun h => h)))
    go_region
    go_wp2
    go_ret
    exact ⟨rfl, k1.dr⟩

set_option maxRecDepth 100000 in
set_option maxHeartbeats 400000 in
theorem merged_any (oa ob : Option Addr) (na nb ca cb : Nat) (w : World) :
    Calls Try.prog 36 #[.slice oa na ca, .slice ob nb cb] w fun e w' => e = .returned (.func (.func 54) #[] #[.pointer (some ⟨w.heap.size, 0, none⟩), .pointer (some ⟨w.heap.size + 1, 0, none⟩)]) ∧ w' = (w.alloc (.cells #[.slice oa na ca] 32)).alloc (.cells #[.slice ob nb cb] 32) := by
  have hmf : ∀ (fn : Fn) (first cap : Array Value) (w : World), (Instr.makeFunc fn first cap).run Try.prog w = .ok (.func fn first cap) w := fun _ _ _ _ => rfl
  go_enter Try.func36, Try.ntmps36
  go_wp2
  go_ret
  exact ⟨rfl, rfl⟩

end Go.Proofs.Ytfcocbcihhdbkaa

/- Scan, from the first key on, without a bound. -/
namespace Go.Proofs.Ytfcocbcihhdbkaa
open Go.RowKit Go.Shelf

attribute [local go_sem] Oper.semAt_some

/-- what a work sees under a key, as a pair -/
def pairOf (ws : List (ByteArray × Ver)) (vers : ByteArray → List Ver) (began : Int) (key : ByteArray) : Option (ByteArray × ByteArray) :=
  if standsB (seeVer ws (vers key) began key) = true then some (key, ((seeVer ws (vers key) began key).getD Ver.zero).value) else none

def pairCells (p : ByteArray × ByteArray) : List Value := [.string p.1, .string p.2]

/-- what Scan leaves -/
def ScanPost (R : Rep) (x : WkR) (w : World) (e : Ending) (w' : World) : Prop :=
  ∃ v xs kw, e = .returned (.tuple #[v, .int .i64 0]) ∧ kw.Perm (x.writes.map (·.1)) ∧ MergeAt R.keys kw [] [] xs ∧
    Row w' 52 2 v (xs.filterMap (pairOf x.writes (versOf R.hist) x.began)).length ((xs.filterMap (pairOf x.writes (versOf R.hist) x.began)).flatMap pairCells) ∧ (∀ g, v.ownBlock = some g → w.heap.size ≤ g) ∧ Keeps (fun _ => False) w w'

/-- Between two rounds of Scan: the pairs so far. -/
def ScanAt (f : ByteArray → Option (ByteArray × ByteArray)) (pB pa pb : Nat) (w5 : World) (pre : List ByteArray) (W : World) : Prop :=
  ∃ v, W.heap[pB]? = some (.cells #[v] 45 (0, 0)) ∧ Row W 52 2 v (pre.filterMap f).length ((pre.filterMap f).flatMap pairCells) ∧ (∀ g, v.ownBlock = some g → w5.heap.size ≤ g) ∧ Keeps (fun k => k = pB ∨ k = pa ∨ k = pb) w5 W

theorem Row.cellsAt {w : World} {e : TypeId} {size n : Nat} {v : Value} {xs : List Value} (h : Row w e size v n xs) {g : Nat} (hg : v.ownBlock = some g) : ∃ cur, w.heap[g]? = some (.cells cur e (0, 0)) := by
  rcases h.2 with ⟨rfl, _⟩ | ⟨g', cap, cur, rfl, hh, _⟩
  · simp [Value.ownBlock] at hg
  · simp [Value.ownBlock] at hg
    subst hg
    exact ⟨cur, hh⟩

theorem scanAt_own {f : ByteArray → Option (ByteArray × ByteArray)} {pB pa pb : Nat} {w5 : World} (hB : pB < w5.heap.size) : OwnFrom w5.heap.size (ScanAt f pB pa pb w5) := by
  intro pre W W' row hs hg hr
  obtain ⟨v, h1, h2, h3, h4⟩ := hs
  refine ⟨v, ?_, h2.kept (Keeps.grown hg) (fun g hgv e => ?_), h3, h4.trans (Keeps.grown hg) (fun k hk e => ?_)⟩
  · refine ((Keeps.grown hg).block pB (Array.getElem?_eq_some_iff.1 h1).1 (fun e => ?_)).trans h1
    have := (hr pB e.symm).1
    omega
  · obtain ⟨_, o, ho, hc⟩ := hr g e.symm
    obtain ⟨cur, hcur⟩ := h2.cellsAt hgv
    rw [hcur] at ho
    cases ho
    cases hc
  · have := (hr k e.symm).1
    omega

theorem scanAt_C {f : ByteArray → Option (ByteArray × ByteArray)} {pB pa pb : Nat} {w5 : World} (h1 : pB ≠ pa) (h2 : pB ≠ pb) (h3 : pa < w5.heap.size) (h4 : pb < w5.heap.size) (pre : List ByteArray) (A B : World) (hC : Keeps (fun k => k = pa ∨ k = pb) A B) (hs : ScanAt f pB pa pb w5 pre A) : ScanAt f pB pa pb w5 pre B := by
  obtain ⟨v, q1, q2, q3, q4⟩ := hs
  refine ⟨v, (hC.block pB (Array.getElem?_eq_some_iff.1 q1).1 (by rintro (e | e); exact h1 e; exact h2 e)).trans q1, q2.kept hC (fun g hg e => ?_), q3, q4.trans hC (fun k _ e => .inr e)⟩
  have := q3 g hg
  rcases e with e | e <;> omega

theorem scan_goesOn {f : ByteArray → Option (ByteArray × ByteArray)} {pB pa pb : Nat} {G : List Nat} {w5 W W4 : World} {v v' : Value} {pre : List ByteArray} {key : ByteArray} {e : TypeId} {m : Nat} {xs : List Value} (a : Act) (hB : pB < w5.heap.size) (hL : ∀ k ∈ pa :: pb :: G, k < w5.heap.size ∧ k ≠ pB)
    (hrow : Row W e 2 v m xs) (hown : ∀ g, v.ownBlock = some g → w5.heap.size ≤ g) (hkeep : Keeps (fun k => k = pB ∨ k = pa ∨ k = pb) w5 W) (hk : Keeps (fun k => k = pB ∨ some k = v.ownBlock) W W4)
    (hb4 : W4.heap[pB]? = some (.cells #[v'] 45 (0, 0))) (hr4 : Row W4 52 2 v' ((pre ++ [key]).filterMap f).length (((pre ++ [key]).filterMap f).flatMap pairCells)) (ho4 : ∀ g, v'.ownBlock = some g → w5.heap.size ≤ g) :
    goesOn w5.heap.size (KpM (pa :: pb :: G)) (ScanAt f pB pa pb w5) (pre ++ [key]) W .normal a W4 := by
  refine ⟨⟨hk.size, fun k o hBk hko hc => ?_⟩, ⟨hk.size, fun k hkG => ?_⟩, v', hb4, hr4, ho4, hkeep.trans hk (fun k hk' e => ?_)⟩
  · refine (hk.block k (Array.getElem?_eq_some_iff.1 hko).1 ?_).trans hko
    rintro (e | e)
    · omega
    · obtain ⟨cur, hcur⟩ := hrow.cellsAt e.symm
      rw [hcur] at hko
      cases hko
      cases hc
  · obtain ⟨l1, l2⟩ := hL k hkG
    refine hk.block k (Nat.lt_of_lt_of_le l1 hkeep.size) ?_
    rintro (e | e)
    · exact l2 e
    · have := hown k e.symm
      omega
  · rcases e with e | e
    · exact .inl e
    · have := hown k e.symm
      omega

theorem Try.infoPair : (Try.prog.info? 52).map (fun i => (i.zero, i.size, i.bytes)) = some (some (.agg #[.string ⟨#[]⟩, .string ⟨#[]⟩]), 2, 32) := by kernel_rfl

theorem pair_new (w : World) (x y : Value) (t : TypeId) : ∀ j u, [x, y][j]? = some u → (w.alloc (.cells #[x, y] t)).cell? ((⟨w.heap.size, 0, none⟩ : Addr).add j) = some u := by
  intro j u hj
  match j with
  | 0 => simp at hj; subst hj; simp [Addr.add, go_sem]
  | 1 => simp at hj; subst hj; simp [Addr.add, go_sem]
  | j + 2 => simp at hj

/-- A region that ends as it should. -/
theorem wpIn_normal {F : Fence} {m : Nat} {P : Program} {c : Code} {K : Act → World → Prop} {Q : Exit → Act → World → Prop} {a : Act} {w : World} (h : c.wpIn F m P (Exit.then K (fun _ _ _ => False)) a w) : c.wpIn F m P (Exit.then K Q) a w :=
  wpIn_mono h (fun e _ _ hq => by cases e <;> first | exact hq | exact hq.elim)

/-- What append leaves of the pairs. -/
structure ScanNew (W : World) (m : Nat) (av : Option Addr) (cv pB : Nat) (w5 : World) (g' cap' : Nat) (w' : World) (xs : List Value) : Prop where
  box : w'.heap[pB]? = some (.cells #[.slice av m cv] 45 (0, 0))
  row : Row (w'.setCell ⟨pB, 0, none⟩ (.slice (some ⟨g', 0, none⟩) (m + 1) cap')) 52 2 (.slice (some ⟨g', 0, none⟩) (m + 1) cap') (m + 1) xs
  own : ∀ g, (Value.slice (some ⟨g', 0, none⟩) (m + 1) cap').ownBlock = some g → w5.heap.size ≤ g
  keep : Keeps (fun k => k = pB ∨ some k = (Value.slice av m cv).ownBlock) W (w'.setCell ⟨pB, 0, none⟩ (.slice (some ⟨g', 0, none⟩) (m + 1) cap'))

theorem scan_new {W W1 w' w5 : World} {m cv pB pa pb g' cap' : Nat} {av : Option Addr} {xs : List Value} {o : Obj} (k1 : Keeps (fun _ => False) W W1) (hb : W.heap[pB]? = some (.cells #[.slice av m cv] 45 (0, 0))) (hown : ∀ g, (Value.slice av m cv).ownBlock = some g → w5.heap.size ≤ g)
    (hkeep : Keeps (fun k => k = pB ∨ k = pa ∨ k = pb) w5 W) (hr : Row w' 52 2 (.slice (some ⟨g', 0, none⟩) (m + 1) cap') (m + 1) xs) (hg : (W1.alloc o).grownBy w' (Value.slice av m cv).ownBlock)
    (ho : (Value.slice (some ⟨g', 0, none⟩) (m + 1) cap').ownBlock = (Value.slice av m cv).ownBlock ∨ (Value.slice (some ⟨g', 0, none⟩) (m + 1) cap').ownBlock = some (W1.alloc o).heap.size) (hB : pB < w5.heap.size) :
    ScanNew W m av cv pB w5 g' cap' w' xs := by
  have hz1 := k1.size
  have hz5 := hkeep.size
  have hne : some pB ≠ (Value.slice av m cv).ownBlock := fun e => by have := hown pB e.symm; omega
  have hkw : Keeps (fun k => some k = (Value.slice av m cv).ownBlock) W w' := ((k1.mono (fun _ _ h => h.elim)).al o).trans (Keeps.grown hg) (fun k _ e => e)
  have hbox : w'.heap[pB]? = some (.cells #[.slice av m cv] 45 (0, 0)) := (hkw.block pB (Array.getElem?_eq_some_iff.1 hb).1 hne).trans hb
  have hown' : ∀ g, (Value.slice (some ⟨g', 0, none⟩) (m + 1) cap').ownBlock = some g → w5.heap.size ≤ g := fun g hgv => by
    rcases ho with e | e
    · exact hown g (by rw [← e]; exact hgv)
    · rw [hgv] at e
      simp at e
      omega
  refine ⟨hbox, hr.kept (Keeps.setCell _ _ _) (fun g hgv e => ?_), hown', (hkw.mono (fun k _ e => .inr e)).trans (Keeps.setCell _ _ _) (fun k _ e => .inl e)⟩
  have h1 := hown' g hgv
  have e' : g = pB := e
  omega

/-- append, by what it comes to. -/
theorem wpListIn_append_run {F : Fence} {n : Nat} {P : Program} (w : World) {ops : Array Oper} {rest : List Oper} {o : Oper} {a : Act} {Q : Exit → Act → World → Prop} (hg : o.guard = none) (s x : Operand) (t : TypeId)
    (hop : o.op = Op.call { callee := Callee.builtin Builtin.append, args := #[s, x], argTypes := #[t, t] }) (v y v' : Value) (w' : World) (hs : a.eval s = v) (hx : a.eval x = y) (hrun : (Builtin.append_ #[t, t] o.type #[v, y]).run P w = .ok v' w')
    (hK : wpListIn F n P ops Q rest (a.put o.dst v') w') : wpListIn F n P ops Q (o :: rest) a w := by
  refine wpListIn_plain hg fun K hK' => ?_
  unfold Oper.wpIn
  refine ⟨?_, ?_⟩
  · simp [Oper.about, hop, resolve, Target.leads, Sem.run_pure]
  · rw [Oper.semAt_plain F _ _ (by rw [hop]; intro c hc'; cases hc')]
    simp [execOp, hop, resolve, invoke, builtin, hs, hx, hrun, Result.andThen]
    exact hK' _ _ hK

theorem four_new (w : World) (o1 o2 o3 o4 : Obj) : ((((w.alloc o1).alloc o2).alloc o3).alloc o4).heap[w.heap.size]? = some o1 ∧ ((((w.alloc o1).alloc o2).alloc o3).alloc o4).heap[w.heap.size + 1]? = some o2 ∧
    ((((w.alloc o1).alloc o2).alloc o3).alloc o4).heap[w.heap.size + 1 + 1]? = some o3 ∧ ((((w.alloc o1).alloc o2).alloc o3).alloc o4).heap[w.heap.size + 1 + 1 + 1]? = some o4 := by
  have n1 := heap_new w o1
  have n2 := heap_new (w.alloc o1) o2
  have n3 := heap_new ((w.alloc o1).alloc o2) o3
  have n4 := heap_new (((w.alloc o1).alloc o2).alloc o3) o4
  simp only [World.size_alloc] at n2 n3 n4
  refine ⟨?_, ?_, ?_, n4⟩
  · exact (Below.heap_alloc _ _ _ (by simp; omega)).trans ((Below.heap_alloc _ _ _ (by simp; omega)).trans ((Below.heap_alloc _ _ _ (by simp)).trans n1))
  · exact (Below.heap_alloc _ _ _ (by simp)).trans ((Below.heap_alloc _ _ _ (by simp)).trans n2)
  · exact (Below.heap_alloc _ _ _ (by simp)).trans n3

end Go.Proofs.Ytfcocbcihhdbkaa

/- Scan, walked. -/
namespace Go.Proofs.Ytfcocbcihhdbkaa
open Go.RowKit Go.Shelf

attribute [local go_sem] Oper.semAt_some

set_option maxRecDepth 100000 in
set_option maxHeartbeats 2000000 in
theorem scan_any (R : Rep) (n : Int) (x : WkR) (w : World) (h : StoreAt w R) (g : Good R) (t : Tied R) (hn : look R.works n = some x) (hkl : R.keys.length < 1000000000000) :
    Calls Try.prog 16 #[.pointer (some ⟨R.sb, 0, none⟩), .int .i64 n, .string ⟨#[]⟩, .int .i64 (-1)] w (ScanPost R x w) := by
  have hk0 : Keeps (fun _ => False) w ((w.alloc (.cells #[.pointer (some ⟨R.sb, 0, none⟩)] 23)).alloc (.cells #[.int .i64 (-1)] 3)) := ((Keeps.refl _ w).al _).al _
  have hf := find_any R n _ (h.kept hk0 (fun _ _ h => h))
  rw [hn] at hf
  simp only [Option.map_some, Option.getD_some, workPtr] at hf
  have HF := hid hf
  have HST := hid h
  have HG := hid g
  have HT := hid t
  have HN := hid hn
  clear hf hk0 h g t hn
  refine (callsIn_wide (n := 8)).1 ?_
  refine callsIn_of_wp_marks Try.func16 rfl trivial ?_ rfl
  simp only [Try.ntmps16, List.size_toArray, List.length_cons, List.length_nil, Nat.reduceAdd, Nat.reduceSub, Array.replicate_succ, Array.replicate_zero, List.push_toArray, List.append_toArray, List.nil_append, List.cons_append]
  gi_wp2_with (refine ⟨trivial, ?_⟩; gi_at_call 30; go_must (refine (callsIn_wide.2 HF.out).mono ?_; rintro e w1 ⟨rfl, rfl⟩))
  obtain ⟨oa, ca, hkv⟩ := (seg_keysV (G := R.kv.ownBlock.toList) HST.out.past.keysRow (fun g hg => by simp [hg])).form
  have HKEYS : Hid (∀ W, Keeps (fun _ => False) w W → Calls Try.prog 37 #[.pointer (some ⟨R.sb, 7, none⟩), .string ⟨#[]⟩] W fun e w' => e = .returned (.slice oa R.keys.length ca) ∧ Keeps (fun _ => False) W w') := fun W hW => by
    have := pastKeys_any R W (HST.out.kept hW (fun _ _ h => h)) HT.out.rises hkl
    rwa [hkv] at this
  have HWK : Hid (∀ W, Keeps (fun _ => False) w W → Calls Try.prog 38 #[.pointer (some ⟨x.blk, 0, none⟩), .string ⟨#[]⟩] W fun e w' => ∃ v ks, e = .returned v ∧ Row w' 9 1 v ks.length (ks.map Value.string) ∧ Rises ks ∧ ks.Perm (x.writes.map (·.1)) ∧ Keeps (fun _ => False) W w' ∧ (∀ k, v.ownBlock = some k → W.heap.size < k)) := fun W hW => by
    obtain ⟨c0, c1, hm⟩ := (HST.out.kept hW (fun _ _ h => h)).works.work (look_mem HN.out)
    have h30 := HG.out.writes30 _ (look_mem HN.out)
    have hwk := HG.out.wkeys _ (look_mem HN.out)
    refine (keys_core x.blk x.mb _ W c1 hm (fun p hp => ?_) (by simp; simp at h30; omega)).mono ?_
    · obtain ⟨q, hq, rfl⟩ := List.mem_map.1 hp
      have := (hwk q hq).1
      simp [keyB] at this
      unfold maxLen
      simp
      omega
    · rintro e w' ⟨v, ks, h1, h2, h3, h4, h5, h6⟩
      exact ⟨v, ks, h1, h2, h3, by simpa [List.map_map, Function.comp_def] using h4, h5, h6⟩
  have HKV := hid hkv
  clear hkv HF
  have hkW : Keeps (fun _ => False) w ((((w.alloc (.cells #[.pointer (some ⟨R.sb, 0, none⟩)] 23)).alloc (.cells #[.int .i64 (-1)] 3)).alloc (.cells #[.pointer (some ⟨x.blk, 0, none⟩)] 73)).alloc (.cells #[.slice none 0 0] 45)) := ((((Keeps.refl _ w).al _).al _).al _).al _
  have HKW := hid hkW
  clear hkW
  rename_i K1 hK1 K0 hK0
  have hrest : ∀ (w3 : World) (ob : Option Addr) (cb : Nat) (ks : List ByteArray), Keeps (fun _ => False) ((((w.alloc (.cells #[.pointer (some ⟨R.sb, 0, none⟩)] 23)).alloc (.cells #[.int .i64 (-1)] 3)).alloc (.cells #[.pointer (some ⟨x.blk, 0, none⟩)] 73)).alloc (.cells #[.slice none 0 0] 45)) w3 → Row w3 9 1 (.slice ob ks.length cb) ks.length (ks.map Value.string) → Rises ks → ks.Perm (x.writes.map (·.1)) → (∀ k, (Value.slice ob ks.length cb).ownBlock = some k → ((((w.alloc (.cells #[.pointer (some ⟨R.sb, 0, none⟩)] 23)).alloc (.cells #[.int .i64 (-1)] 3)).alloc (.cells #[.pointer (some ⟨x.blk, 0, none⟩)] 73)).alloc (.cells #[.slice none 0 0] 45)).heap.size < k) →
      K0 { tmps := #[Value.pointer (some ⟨R.sb, 0, none⟩), .int .i64 n, .string ⟨#[]⟩, .int .i64 (-1), .pointer (some ⟨w.heap.size, 0, none⟩), undef, undef, .pointer (some ⟨w.heap.size + 1, 0, none⟩), .slice none 0 0, .int .i64 0, .pointer (some ⟨w.heap.size + 1 + 1, 0, none⟩), .pointer (some ⟨w.heap.size + 1 + 1 + 1, 0, none⟩), undef, undef, undef, .pointer (some ⟨R.sb, 0, none⟩), .int .i64 n, .pointer (some ⟨x.blk, 0, none⟩), .pointer (some ⟨x.blk, 0, none⟩), .bool false, .string ⟨#[]⟩, .int .i64 0, .bool false, .pointer (some ⟨R.sb, 0, none⟩), .pointer (some ⟨R.sb, 0, none⟩), .pointer (some ⟨R.sb, 7, none⟩), .string ⟨#[]⟩, .slice oa R.keys.length ca, .pointer (some ⟨x.blk, 0, none⟩), .string ⟨#[]⟩, .slice ob ks.length cb, .func (.func 54) #[] #[.pointer (some ⟨w3.heap.size, 0, none⟩), .pointer (some ⟨w3.heap.size + 1, 0, none⟩)], undef, undef, undef, undef, undef, undef, undef, undef, undef, undef, undef, undef, undef, undef, undef, undef, undef, undef, undef, undef], defers := [] } ((w3.alloc (.cells #[.slice oa R.keys.length ca] 32)).alloc (.cells #[.slice ob ks.length cb] 32)) := by
    intro w3 ob cb ks h1 h2 h3 h4 h5
    refine hK0 _ _ ?_
    dsimp only
    have hkw3 : Keeps (fun _ => False) w w3 := HKW.out.tr h1 (fun _ h => h)
    have hz : w.heap.size + 4 ≤ w3.heap.size := by have := h1.size; simp at this; omega
    have hS3 : StoreAt w3 R := HST.out.kept hkw3 (fun _ _ h => h)
    obtain ⟨w5, hw5⟩ : ∃ w5, (w3.alloc (.cells #[.slice oa R.keys.length ca] 32)).alloc (.cells #[.slice ob ks.length cb] 32) = w5 := ⟨_, rfl⟩
    have hk35 : Keeps (fun _ => False) w3 w5 := by rw [← hw5]; exact ((Keeps.refl _ w3).al _).al _
    have hzz : w5.heap.size = w3.heap.size + 2 := by rw [← hw5]; simp
    have qa : w5.heap[w3.heap.size]? = some (.cells #[.slice oa R.keys.length ca] 32 (0, 0)) := by rw [← hw5]; exact (Below.heap_alloc _ _ _ (by simp)).trans (heap_new w3 _)
    have qb : w5.heap[w3.heap.size + 1]? = some (.cells #[.slice ob ks.length cb] 32 (0, 0)) := by
      rw [← hw5]
      have := heap_new (w3.alloc (.cells #[.slice oa R.keys.length ca] 32)) (.cells #[.slice ob ks.length cb] 32)
      simpa using this
    rw [hw5]
    clear hw5
    have hkv : ∀ k ∈ R.kv.ownBlock.toList, k < w.heap.size := fun k hk => fp_lt HST.out k (by simp only [Rep.fp, Rep.fpPast, List.mem_cons, List.mem_append]; exact .inr (.inr (.inl (.inl hk))))
    have hov : ∀ k ∈ (Value.slice ob ks.length cb).ownBlock.toList, w.heap.size + 4 < k ∧ k < w3.heap.size := fun k hk => by
      have hk' : (Value.slice ob ks.length cb).ownBlock = some k := by simpa using hk
      have e1 := h5 k hk'
      simp at e1
      exact ⟨by omega, h2.lt hk'⟩
    obtain ⟨G, hGe⟩ : ∃ G, R.kv.ownBlock.toList ++ (Value.slice ob ks.length cb).ownBlock.toList = G := ⟨_, rfl⟩
    have hG : ∀ k ∈ G, k < w3.heap.size ∧ k ≠ w.heap.size + 1 + 1 + 1 := fun k hk => by
      rw [← hGe] at hk
      rcases List.mem_append.1 hk with hk | hk
      · have := hkv k hk; omega
      · have := hov k hk; omega
    have hmem : MergeMem G w3.heap.size (w3.heap.size + 1) R.keys ks [] w5 := by
      refine ⟨_, _, R.keys, ks, qa, qb, ?_, ?_, ⟨List.Pairwise.nil, HT.out.rises, h3, fun k hk => (by cases hk), fun k => by simp, by simp⟩⟩
      · have := seg_keysV (G := G) ((hS3.kept hk35 (fun _ _ h => h)).past.keysRow) (fun g hg => by rw [← hGe]; simp [hg])
        rwa [HKV.out] at this
      · exact (h2.kept hk35 (fun _ _ h => h)).seg (fun g hg => by rw [← hGe]; simp [hg])
    have hseq := merged1_all G w3.heap.size (w3.heap.size + 1) R.keys ks w5 (fun h => by have := (hG _ h).1; omega) (fun h => by have := (hG _ h).1; omega) (by omega) (fun k hk => by have := (hG k hk).1; omega) hmem
    have bx : ∀ (k : Nat) (o : Obj), ((((w.alloc (.cells #[.pointer (some ⟨R.sb, 0, none⟩)] 23)).alloc (.cells #[.int .i64 (-1)] 3)).alloc (.cells #[.pointer (some ⟨x.blk, 0, none⟩)] 73)).alloc (.cells #[.slice none 0 0] 45)).heap[k]? = some o → w5.heap[k]? = some o := fun k o hk => (hk35.block k (Nat.lt_of_lt_of_le (Array.getElem?_eq_some_iff.1 hk).1 h1.size) (fun h => h)).trans ((h1.block k (Array.getElem?_eq_some_iff.1 hk).1 (fun h => h)).trans hk)
    have b1 : w5.heap[w.heap.size]? = some (.cells #[.pointer (some ⟨R.sb, 0, none⟩)] 23 (0, 0)) := bx _ _ (four_new w _ _ _ _).1
    have b2 : w5.heap[w.heap.size + 1]? = some (.cells #[.int .i64 (-1)] 3 (0, 0)) := bx _ _ (four_new w _ _ _ _).2.1
    have b3 : w5.heap[w.heap.size + 1 + 1]? = some (.cells #[.pointer (some ⟨x.blk, 0, none⟩)] 73 (0, 0)) := bx _ _ (four_new w _ _ _ _).2.2.1
    have b4 : w5.heap[w.heap.size + 1 + 1 + 1]? = some (.cells #[.slice none 0 0] 45 (0, 0)) := bx _ _ (four_new w _ _ _ _).2.2.2
    have HS5 := hid (hS3.kept hk35 (fun _ _ h => h))
    have H24 := hid (And.intro h4 h3)
    have HKS := hid hkw3
    have HK35 := hid hk35
    have B1 := hid b1
    have B2 := hid b2
    have B3 := hid b3
    have HL : Hid (∀ k ∈ w3.heap.size :: (w3.heap.size + 1) :: G, k < w5.heap.size ∧ k ≠ w.heap.size + 1 + 1 + 1) := fun k hk => by
      rcases List.mem_cons.1 hk with rfl | hk
      · omega
      · rcases List.mem_cons.1 hk with rfl | hk
        · omega
        · have := hG k hk; omega
    have hpB : w.heap.size + 1 + 1 + 1 < w5.heap.size := by omega
    have h0 : ScanAt (pairOf x.writes (versOf R.hist) x.began) (w.heap.size + 1 + 1 + 1) w3.heap.size (w3.heap.size + 1) w5 [] w5 := ⟨_, b4, Row.nil _ _ _, fun g hg => by simp [Value.ownBlock] at hg, Keeps.refl _ _⟩
    have hbound : R.keys.length + ks.length < 2000000000000 := by
      have e1 := h4.length_eq
      have e2 := HG.out.writes30 _ (look_mem HN.out)
      simp at e1 e2
      omega
    clear h1 h2 h3 h4 h5 hkw3 hS3 hk35 qa qb hkv hov hGe hG hmem bx b1 b2 b3 b4 hkl hK0 HKEYS HWK
    gi_wp2_with fail
    refine wpIn_range_all (α := ByteArray) rfl (by omega) (gf := 54) (lb := #[.pointer (some ⟨w3.heap.size, 0, none⟩), .pointer (some ⟨w3.heap.size + 1, 0, none⟩)]) rfl trivial (enters_of Try.func54 (by kernel_rfl) rfl)
      hseq ?cs (fun h k => ⟨Nat.le_trans h.1 k.1, fun j hj => (k.2 j hj).trans (h.2 j hj)⟩) ?kb (fun _ => rfl) (ScanAt (pairOf x.writes (versOf R.hist) x.began) (w.heap.size + 1 + 1 + 1) w3.heap.size (w3.heap.size + 1) w5)
      (scanAt_own hpB) (scanAt_C (by omega) (by omega) (by omega) (by omega)) h0 (fun key => { tmps := #[Value.pointer (some ⟨R.sb, 0, none⟩), .int .i64 n, .string ⟨#[]⟩, .int .i64 (-1), .pointer (some ⟨w.heap.size, 0, none⟩), undef, undef, .pointer (some ⟨w.heap.size + 1, 0, none⟩), .slice none 0 0, .int .i64 0, .pointer (some ⟨w.heap.size + 1 + 1, 0, none⟩), .pointer (some ⟨w.heap.size + 1 + 1 + 1, 0, none⟩), .string key, undef, undef, .pointer (some ⟨R.sb, 0, none⟩), .int .i64 n, .pointer (some ⟨x.blk, 0, none⟩), .pointer (some ⟨x.blk, 0, none⟩), .bool false, .string ⟨#[]⟩, .int .i64 0, .bool false, .pointer (some ⟨R.sb, 0, none⟩), .pointer (some ⟨R.sb, 0, none⟩), .pointer (some ⟨R.sb, 7, none⟩), .string ⟨#[]⟩, .slice oa R.keys.length ca, .pointer (some ⟨x.blk, 0, none⟩), .string ⟨#[]⟩, .slice ob ks.length cb, .func (.func 54) #[] #[.pointer (some ⟨w3.heap.size, 0, none⟩), .pointer (some ⟨w3.heap.size + 1, 0, none⟩)], .string key, undef, undef, undef, undef, undef, undef, undef, undef, undef, undef, undef, undef, undef, undef, undef, undef, undef, undef, undef], defers := [] }) ?assign ?body ?done
    case cs =>
      rintro A B k hC hk ⟨o, ho, _⟩
      exact hC.block k (Array.getElem?_eq_some_iff.1 ho).1 (by rintro (e | e) <;> omega)
    case kb =>
      intro W l o' hl
      exact ⟨by simp, fun j hj => World.putObj_heap_other (by have := (HL.out j hj).1; omega)⟩
    case assign =>
      intro l key W K hK
      have ez : ∀ t : Array Value, (#[32].zip #[Value.string key]).foldl (fun t (p, v) => t.setIfInBounds p v) t = t.setIfInBounds 32 (.string key) := fun t => by simp [Array.zip]
      simp only [ez]
      gi_wp2
      exact hK
    case body =>
      intro l pre key W hI hlt
      obtain ⟨v, q1, q2, q3, q4⟩ := hI
      have bk : ∀ (k : Nat) (o : Obj), k < w.heap.size + 1 + 1 + 1 → w5.heap[k]? = some o → W.heap[k]? = some o := fun k o hk ho => (q4.block k (Array.getElem?_eq_some_iff.1 ho).1 (by rintro (e | e | e) <;> omega)).trans ho
      have c4 := cell_of_heap (bk _ _ (by omega) B1.out) 0
      have c7 := cell_of_heap (bk _ _ (by omega) B2.out) 0
      have c10 := cell_of_heap (bk _ _ (by omega) B3.out) 0
      have c11 := cell_of_heap q1 0
      simp at c4 c7 c10 c11
      have hSW : StoreAt W R := HS5.out.kept q4 (fun k hk e => by have := fp_lt HST.out k hk; rcases e with e | e | e <;> omega)
      have hsee := see_any R n x key W hSW HG.out (look_mem HN.out)
      simp only [workPtr] at hsee
      obtain ⟨av, cv, rfl, hmx, -⟩ := q2.form
      have hfl : (pre.filterMap (pairOf x.writes (versOf R.hist) x.began)).length ≤ pre.length := List.length_filterMap_le _ _
      obtain ⟨m, hm⟩ : ∃ m, m = (pre.filterMap (pairOf x.writes (versOf R.hist) x.began)).length := ⟨_, rfl⟩
      rw [← hm] at c11 q1 q2 q3 hfl
      have HM := hid hm
      have HQ1 := hid q1
      have HQ2 := hid q2
      have HQ3 := hid q3
      have HQ4 := hid q4
      have hne1 : ((m : Int) == -1) = false := by simp
      have hsv : pairOf x.writes (versOf R.hist) x.began key = if standsB (seeVer x.writes (versOf R.hist key) x.began key) = true then some (key, ((seeVer x.writes (versOf R.hist key) x.began key).getD Ver.zero).value) else none := rfl
      generalize ((seeVer x.writes (versOf R.hist key) x.began key).getD Ver.zero).value = val at hsee hsv
      have HLT := hid hlt
      clear q1 q2 q3 q4 bk hSW hm hseq h0
      cases hst : standsB (seeVer x.writes (versOf R.hist key) x.began key) with
      | false =>
        rw [hst] at hsee hsv
        simp only [Bool.false_eq_true, if_false] at hsv
        have HSEE := hid hsee
        have HSV := hid hsv
        clear hsee hsv hst
        gi_wp2_with (refine ⟨trivial, ?_⟩; gi_at_call 34; go_must (refine (CallsIn.inRound l (callsIn_wide.2 HSEE.out)).mono ?_; rintro e W1 ⟨rfl, k1⟩))
        have epre : (pre ++ [key]).filterMap (pairOf x.writes (versOf R.hist) x.began) = pre.filterMap (pairOf x.writes (versOf R.hist) x.began) := by simp [List.filterMap_append, HSV.out]
        refine scan_goesOn _ hpB HL.out HQ2.out HQ3.out HQ4.out (k1.mono (fun _ _ h => h.elim)) ((k1.block _ (Array.getElem?_eq_some_iff.1 HQ1.out).1 (fun h => h)).trans HQ1.out) ?_ HQ3.out
        rw [epre, ← HM.out]
        exact HQ2.out.kept k1 (fun _ _ h => h)
      | true =>
        rw [hst] at hsee hsv
        simp only [if_true] at hsv
        have HSEE := hid hsee
        have HSV := hid hsv
        clear hsee hsv hst
        obtain ⟨i0, hi, hz0, hz1, hz2⟩ := info_parts Try.infoPair
        have HAPP : Hid (∀ W1, Keeps (fun _ => False) W W1 → ∃ g' cap' w', (Builtin.append_ #[45, 45] 45 #[.slice av m cv, .slice (some ⟨W1.heap.size, 0, none⟩) 1 1]).run Try.prog (W1.alloc (.cells #[.string key, .string val] 52)) = .ok (.slice (some ⟨g', 0, none⟩) (m + 1) cap') w' ∧
            ScanNew W m av cv (w.heap.size + 1 + 1 + 1) w5 g' cap' w' ((pre.filterMap (pairOf x.writes (versOf R.hist) x.began)).flatMap pairCells ++ [.string key, .string val])) := fun W1 k1 => by
          obtain ⟨v', w', r1, r2, r3, r4, r5⟩ := run_append_row (P := Try.prog) (W1.alloc (.cells #[.string key, .string val] 52)) 45 45 52 i0 (.agg #[.string ⟨#[]⟩, .string ⟨#[]⟩]) 2 32 Try.underlying45 hi hz0 hz1 hz2 rfl (.slice av m cv) m _ ((HQ2.out.kept k1 (fun _ _ h => h)).kept (Keeps.alloc (fun _ => False) _ _) (fun _ _ h => h)) ⟨W1.heap.size, 0, none⟩ 1 1 [.string key, .string val] rfl (pair_new _ _ _ _) (by simp [Value.oneCell']) (by unfold maxLen; omega) (by omega)
          obtain ⟨g', cap', rfl⟩ := r2.succ
          exact ⟨g', cap', w', r1, scan_new k1 HQ1.out HQ3.out HQ4.out r2 r3 r5 hpB⟩
        have Z0 := hid hi
        clear hi hz0 hz1 hz2 Z0
        gi_wp2_with (first | (gi_at_builtin; refine wpListIn_append_run _ rfl _ _ 45 rfl _ _ _ _ rfl rfl HRUN.out ?_) | (refine ⟨trivial, ?_⟩; gi_at_call 34; go_must (refine (CallsIn.inRound l (callsIn_wide.2 HSEE.out)).mono ?_; rintro e W1 ⟨rfl, k1⟩; have d11 := k1.cell (p := ⟨w.heap.size + 1 + 1 + 1, 0, none⟩) c11 (fun h => h); obtain ⟨g', cap', w', hrun, hnew⟩ := HAPP.out W1 k1; have e11 := cell_of_heap hnew.box 0; have f11 := frozen_of_heap hnew.box 0; simp at e11; have HNEW := hid hnew; have HRUN := hid hrun; clear hnew HAPP hrun)))
        have epre : (pre ++ [key]).filterMap (pairOf x.writes (versOf R.hist) x.began) = pre.filterMap (pairOf x.writes (versOf R.hist) x.began) ++ [(key, val)] := by simp [List.filterMap_append, HSV.out]
        refine scan_goesOn _ hpB HL.out HQ2.out HQ3.out HQ4.out HNEW.out.keep (heap_setCell_same HNEW.out.box _) ?_ HNEW.out.own
        rw [epre]
        have := HNEW.out.row
        simpa [HM.out, List.flatMap_append, pairCells] using this
    case done =>
      rintro D xs W hD hS hI hK
      obtain ⟨v, q1, q2, q3, q4⟩ := hI
      have c11 := cell_of_heap q1 0
      simp at c11
      obtain ⟨av, cv, rfl, hmx, -⟩ := q2.form
      have HQ := hid (And.intro q1 (And.intro q2 (And.intro q3 q4)))
      have HS := hid hS
      have HK := hid hK
      clear q1 q2 q3 q4 hS hK hseq h0
      gi_wp2
      refine ⟨by simp, .inl ⟨_, _, rfl, run_takeDeferred HK.out, ?_⟩⟩
      refine ⟨_, results_tmp2 rfl _ _ _, ?_⟩
      obtain ⟨q1, q2, q3, q4⟩ := HQ.out
      have kp := Keeps.grown (grownBy_putObj' W D (.deferred none))
      refine ⟨_, xs, ks, rfl, H24.out.1, HS.out, q2.kept kp (fun g hg e => ?_), fun g hg => ?_, ?_⟩
      · obtain ⟨cur, hcur⟩ := q2.cellsAt hg
        simp only [Option.some.injEq] at e
        rw [e, HK.out] at hcur
        cases hcur
      · have := q3 g hg
        omega
      · have k1 : Keeps (fun _ => False) w W := (HKS.out.tr HK35.out (fun _ h => h)).trans q4 (fun k hk e => by rcases e with e | e | e <;> omega)
        refine k1.trans kp (fun k hk e => ?_)
        simp only [Option.some.injEq] at e
        omega
  have HREST := hid hrest
  clear hrest
  refine wpIn_normal ?_
  gi_region_with (first
    | (refine ⟨trivial, ?_⟩; gi_at_call 37; go_must (refine (callsIn_wide.2 (HKEYS.out _ HKW.out.dr)).mono ?_; rintro e w2 ⟨rfl, k2⟩; have b2 := (Keeps.drew (fun _ => False) _).tr k2 (fun _ h => h); have c10 := b2.cell (p := ⟨w.heap.size + 1 + 1, 0, none⟩) (v := .pointer (some ⟨x.blk, 0, none⟩)) (by simp [go_sem]) (fun h => h)))
    | (refine ⟨trivial, ?_⟩; gi_at_call 38; go_must (refine (callsIn_wide.2 (HWK.out _ (HKW.out.tr b2 (fun _ h => h)))).mono ?_; rintro e w3 ⟨v3, ks, rfl, r3, rs3, p3, k3, o3⟩; obtain ⟨ob, cb, rfl, -⟩ := r3.form))
    | (refine ⟨trivial, ?_⟩; gi_at_call 36; go_must (refine (callsIn_wide.2 (merged_any _ _ _ _ _ _ _)).mono ?_; rintro e w4 ⟨rfl, rfl⟩)))
  all_goals exact HREST.out w3 ob cb ks (b2.tr k3 (fun _ h => h)) r3 rs3 p3 (fun k hk => Nat.lt_of_le_of_lt b2.size (o3 k hk))

end Go.Proofs.Ytfcocbcihhdbkaa

/- Scan of a store, from outside. -/
namespace Go.Proofs.Ytfcocbcihhdbkaa
open Go.RowKit Go.Shelf

/-- Two rising lists with the same members are one. -/
theorem rises_ext : ∀ {xs ys : List ByteArray}, Rises xs → Rises ys → (∀ k, k ∈ xs ↔ k ∈ ys) → xs = ys
  | [], [], _, _, _ => rfl
  | [], y :: ys, _, _, h => by have := (h y).2 (by simp); cases this
  | x :: xs, [], _, _, h => by have := (h x).1 (by simp); cases this
  | x :: xs, y :: ys, hx, hy, h => by
    obtain ⟨hx1, hx2⟩ := rises_cons hx
    obtain ⟨hy1, hy2⟩ := rises_cons hy
    have e : x = y := by
      rcases List.mem_cons.1 ((h x).1 (by simp)) with e | h1
      · exact e
      · rcases List.mem_cons.1 ((h y).2 (by simp)) with e | h2
        · exact e.symm
        · have := ltK_trans (hy1 x h1) (hx1 y h2)
          rw [ltK_irrefl] at this
          cases this
    subst e
    have hnx : ∀ l : List ByteArray, (∀ z ∈ l, ltK x z = true) → x ∉ l := fun l hl hm => by
      have := hl x hm
      rw [ltK_irrefl] at this
      cases this
    congr 1
    refine rises_ext hx2 hy2 (fun k => ⟨fun hk => ?_, fun hk => ?_⟩)
    · rcases List.mem_cons.1 ((h k).1 (List.mem_cons_of_mem _ hk)) with e | h1
      · exact absurd (e ▸ hk) (hnx xs hx1)
      · exact h1
    · rcases List.mem_cons.1 ((h k).2 (List.mem_cons_of_mem _ hk)) with e | h1
      · exact absurd (e ▸ hk) (hnx ys hy1)
      · exact h1

theorem filterMap_some {β : Type} (f : ByteArray → Option β) : ∀ xs : List ByteArray, (xs.filter (fun k => (f k).isSome)).filterMap f = xs.filterMap f
  | [] => rfl
  | x :: xs => by
    cases h : f x with
    | none => simp [h, filterMap_some f xs]
    | some y => simp [h, filterMap_some f xs]

theorem filterMap_rises {β : Type} {f : ByteArray → Option β} {xs ys : List ByteArray} (hx : Rises xs) (hy : Rises ys) (h1 : ∀ k, (f k).isSome = true → k ∈ xs) (h2 : ∀ k, (f k).isSome = true → k ∈ ys) : xs.filterMap f = ys.filterMap f := by
  rw [← filterMap_some f xs, ← filterMap_some f ys]
  congr 1
  refine rises_ext (hx.sublist List.filter_sublist) (hy.sublist List.filter_sublist) (fun k => ?_)
  simp only [List.mem_filter]
  exact ⟨fun h => ⟨h2 k h.2, h.2⟩, fun h => ⟨h1 k h.2, h.2⟩⟩

/-- the twelve keys, in rising order -/
def K12s : List ByteArray := [keyZ 0, keyZ 3, keyZ 1, keyZ 4, keyZ 7, keyZ 10, keyZ 2, keyZ 5, keyZ 8, keyZ 11, keyZ 6, keyZ 9]

theorem K12s_rises : Rises K12s := by
  unfold Rises
  decide +kernel

theorem K12s_mem {k : ByteArray} (h : k ∈ K12) : k ∈ K12s := by
  obtain ⟨j, hj, rfl⟩ := key_of_mem h
  have hall : ∀ i : Fin 12, memB K12s (keyZ (i.val : Int)) = true := by decide +kernel
  exact (memB_iff _ _).1 (hall ⟨j, hj⟩)

/-- what a work sees -/
def Abs.scan (A : Abs) (bg : Int) (ws : List (ByteArray × Ver)) : List (ByteArray × ByteArray) := K12s.filterMap (pairOf ws A.vers bg)

/-- Scan -/
theorem scan_s {O : Nat → Prop} {w : World} {b : Nat} {A : Abs} {n bg : Int} {ws : List (ByteArray × Ver)} (h : SAt K12 O w b A) (hn : look A.works n = some (bg, ws)) :
    Calls Try.prog 16 #[.pointer (some ⟨b, 0, none⟩), .int .i64 n, .string ⟨#[]⟩, .int .i64 (-1)] w fun e w' => ∃ v, e = .returned (.tuple #[v, .int .i64 0]) ∧
      Row w' 52 2 v (A.scan bg ws).length ((A.scan bg ws).flatMap pairCells) ∧ (∀ g, v.ownBlock = some g → w.heap.size ≤ g) ∧ SAt K12 O w' b A ∧ Keeps (fun _ => False) w w' := by
  obtain ⟨R, hi, rfl, rfl, hf⟩ := h
  obtain ⟨x, hx, rfl, rfl⟩ := abs_look hn
  have hkl := hi.keysLen
  have h30 := K12_len
  refine (scan_any R n x w hi.st hi.good hi.tied hx (by omega)).mono ?_
  rintro e w' ⟨v, xs, kw, rfl, hp, hM, hrow, hown, hk⟩
  have hmem : ∀ k, k ∈ xs ↔ (k ∈ R.keys ∨ k ∈ x.writes.map (·.1)) := fun k => by
    have := hM.all k
    simp only [List.not_mem_nil, or_false] at this
    rw [this, hp.mem_iff]
  have hsome : ∀ k, (pairOf x.writes (versOf R.hist) x.began k).isSome = true → k ∈ xs := fun k hk => by
    rw [hmem]
    by_cases hw : k ∈ x.writes.map (·.1)
    · exact .inr hw
    · left
      refine keys_of_vers hi.tied (fun e => ?_)
      have hl : look x.writes k = none := look_none.2 (fun q hq e => hw (List.mem_map.2 ⟨q, hq, e⟩))
      unfold pairOf seeVer at hk
      rw [hl, e] at hk
      simp [atVer, upN, standsB] at hk
  have hin : ∀ k ∈ xs, k ∈ K12 := fun k hk => by
    rcases (hmem k).1 hk with h | h
    · exact hi.kin k h
    · obtain ⟨q, hq, rfl⟩ := List.mem_map.1 h
      exact hi.win _ (look_mem hx) q hq
  have e : xs.filterMap (pairOf x.writes (versOf R.hist) x.began) = R.abs.scan x.began x.writes := filterMap_rises hM.come K12s_rises hsome (fun k hk => K12s_mem (hin k (hsome k hk)))
  rw [e] at hrow
  exact ⟨v, rfl, hrow, hown, ⟨R, hi.kept hk (fun _ _ h => h), rfl, rfl, hf⟩, hk⟩

end Go.Proofs.Ytfcocbcihhdbkaa

/- needless: how many of a key's first versions no state from a least one on needs. -/
namespace Go.Proofs.Ytfcocbcihhdbkaa
open Go.RowKit Go.Shelf

/-- how many of a key's first versions are not needed -/
def needN (vs : List Ver) (t : Int) : Nat :=
  match atVer vs t with
  | some v => if v.gone = true then upN vs t else upN vs t - 1
  | none => 0

set_option maxRecDepth 100000 in
set_option maxHeartbeats 400000 in
theorem needless_any (sl : Value) (vs : List Ver) (t : Int) (w : World) (h : Row w 79 3 sl vs.length (vs.flatMap Ver.cells)) (hs : Rising vs) (hl : vs.length ≤ 1000000000000) :
    Calls Try.prog 61 #[sl, .int .i64 t] w fun e w' => e = .returned (.int .i64 (needN vs t : Nat)) ∧ Keeps (fun _ => False) w w' := by
  have hule := upN_le vs t
  rcases h.shape with ⟨rfl, hn⟩ | ⟨g, cap, rfl, hc1, hc2⟩
  · have e : vs = [] := List.eq_nil_of_length_eq_zero hn
    subst e
    have HU := hid (upTo_nil t w)
    have e : needN [] t = 0 := by simp [needN, atVer, upN]
    rw [e]
    clear h hs hl hule hn e
    go_enter Try.func61, Try.ntmps61
    go_wp2_with (go_at_call 72; go_must (refine (HU.out).mono ?_; rintro e w1 ⟨rfl, k1⟩))
    go_ret
    exact ⟨rfl, k1⟩
  · have HU := hid (upTo_some g cap vs t w h hs hl)
    by_cases h0 : upN vs t = 0
    · have e : needN vs t = 0 := by simp [needN, atVer, h0]
      rw [e]
      rw [h0] at HU
      clear h hs hule h0 e
      go_enter Try.func61, Try.ntmps61
      go_wp2_with (go_at_call 72; go_must (refine (HU.out).mono ?_; rintro e w1 ⟨rfl, k1⟩))
      go_ret
      exact ⟨rfl, k1⟩
    · obtain ⟨u, hu⟩ : ∃ u, upN vs t = u + 1 := ⟨upN vs t - 1, by omega⟩
      have hul : u < vs.length := by omega
      have ea : atVer vs t = some vs[u] := by
        unfold atVer
        rw [if_neg h0, hu]
        simp [hul]
      have hv := h.ver u hul
      have en : needN vs t = if vs[u].gone = true then u + 1 else u := by
        unfold needN
        rw [ea]
        simp only [hu, Nat.add_sub_cancel]
      rw [en]
      rw [hu] at HU
      have e1 : ((u + 1 : Nat) : Int) = (u : Int) + 1 := by omega
      rw [e1] at HU
      cases hg : vs[u].gone with
      | true =>
        rw [hg] at hv
        obtain ⟨c0, c1, c2⟩ := hv
        simp only [if_true, e1]
        clear hs hule h0 ea en hg hu h c0 c1 e1
        go_enter Try.func61, Try.ntmps61
        go_wp2_with (go_at_call 72; go_must (refine (HU.out).mono ?_; rintro e w1 ⟨rfl, k1⟩; have d2 := k1.cell c2 (fun h => h)))
        go_ret
        exact ⟨rfl, k1⟩
      | false =>
        rw [hg] at hv
        obtain ⟨c0, c1, c2⟩ := hv
        simp only [Bool.false_eq_true, if_false]
        clear hs hule h0 ea en hg hu h c0 c1 e1
        go_enter Try.func61, Try.ntmps61
        go_wp2_with (go_at_call 72; go_must (refine (HU.out).mono ?_; rintro e w1 ⟨rfl, k1⟩; have d2 := k1.cell c2 (fun h => h)))
        go_ret
        exact ⟨ret_int (by omega), k1⟩

end Go.Proofs.Ytfcocbcihhdbkaa

/- throw: a key's first versions are cut off. -/
namespace Go.Proofs.Ytfcocbcihhdbkaa
open Go.RowKit Go.Shelf

/-- What throw leaves: the key's versions without the first n. -/
def ThrowPost (R : Rep) (key : ByteArray) (n : Nat) (w w' : World) : Prop :=
  ∃ hist', StoreAt w' { R with hist := hist' } ∧ (∀ k, versOf hist' k = if k = key then (versOf R.hist key).drop n else versOf R.hist k) ∧ (∀ k, (look hist' k).isSome = true → (look R.hist k).isSome = true) ∧
    ((∀ p ∈ R.hist, p.2.vers ≠ []) → ∀ p ∈ hist', p.2.vers ≠ []) ∧ Keeps (· ∈ R.fp) w w' ∧ ∀ k ∈ Rep.fp { R with hist := hist' }, k ∈ R.fp ∨ w.heap.size ≤ k

theorem versOf_del {hist : List (ByteArray × HsR)} (hn : (hist.map (·.1)).Nodup) (key k : ByteArray) : versOf (del hist key) k = if k = key then [] else versOf hist k := by
  unfold versOf
  rw [look_del _ hn]
  by_cases e : k = key
  · subst e; simp
  · have e' : ¬ key = k := fun h => e h.symm
    simp [e, e']

theorem throw_setup {R : Rep} {key : ByteArray} {x : HsR} {w : World} (h : StoreAt w R) (hx : look R.hist key = some x) : ∃ b, R.vm = some b ∧ MapAt Value.string w b (R.hist.map fun p => (p.1, p.2.sl)) ∧ w.cell? ⟨R.sb, 8, none⟩ = some (.map (some b)) ∧ R.sb ≠ b ∧
    (∀ g, x.sl.ownBlock = some g → g ≠ R.sb ∧ g ≠ b ∧ g < w.heap.size) ∧ (∀ g, R.kv.ownBlock = some g → g ≠ b ∧ x.sl.ownBlock ≠ some g) := by
  obtain ⟨b, hvm⟩ : ∃ b, R.vm = some b := by
    cases hv : R.vm with
    | some b => exact ⟨b, rfl⟩
    | none =>
      have := h.past.histMap
      rw [hv] at this
      have e : R.hist = [] := List.map_eq_nil_iff.1 this
      rw [e] at hx
      cases hx
  have hR := h.past.histEach _ (look_mem hx)
  have hsl : slOf R.hist key = x.sl := by unfold slOf; rw [hx]; rfl
  have hn := ((fp_perm R key).nodup_iff).1 h.nodup
  rw [List.nodup_append, List.nodup_append] at hn
  have hd1 := hn.2.2
  have hd2 := hn.2.1.2.2
  rw [hsl] at hd1 hd2
  refine ⟨b, hvm, by have := h.past.histMap; rw [hvm] at this; exact this, (h.cell 8).trans (by rw [← hvm]; rfl), fun e => ?_, fun g hg => ⟨fun e => hd2 g (by simp [hg]) g (by simp [Rep.restOf, e]) rfl, fun e => hd2 g (by simp [hg]) g (by simp [Rep.restOf, hvm, e]) rfl, hR.lt hg⟩,
    fun g hg => ⟨fun e => hd1 g (by simp [hg]) g (List.mem_append_right _ (by simp [Rep.restOf, hvm, e])) rfl, fun e => hd1 g (by simp [hg]) g (List.mem_append_left _ (by simp [e])) rfl⟩⟩
  have hn2 := h.nodup
  simp only [Rep.fp, Rep.fpPast, List.nodup_cons, List.mem_append, not_or] at hn2
  exact hn2.1.2.1.2 (by simp [hvm, e])

set_option maxRecDepth 100000 in
set_option maxHeartbeats 1000000 in
/-- all of them -/
theorem throw_all (R : Rep) (key : ByteArray) (x : HsR) (w : World) (h : StoreAt w R) (hx : look R.hist key = some x) :
    Calls Try.prog 63 #[.pointer (some ⟨R.sb, 7, none⟩), .string key, .int .i64 (x.vers.length : Nat)] w fun e w' => e = .returned (.tuple #[]) ∧ ThrowPost R key x.vers.length w w' := by
  obtain ⟨b, hvm, hM, c6, hsb, hbs, hkv⟩ := throw_setup h hx
  have hR := h.past.histEach _ (look_mem hx)
  obtain ⟨av, cv, hsv, -⟩ := hR.form
  simp only at hsv
  have hlk : look (R.hist.map fun p => (p.1, p.2.sl)) key = some (.slice av x.vers.length cv) := by rw [look_map, hx]; simp [hsv]
  have HST := hid h
  have HX := hid hx
  have HVM := hid hvm
  have HM := hid hM
  have HLK := hid hlk
  have hlt := h.lt
  have hbl := hM.lt
  clear hM hlk hx h hvm hsv hR
  generalize hn : x.vers.length = n at *
  have HN := hid hn
  clear hn
  go_enter Try.func63, Try.ntmps63
  go_wp2_with (first
    | (at_lookup; go_must (refine wpList_lookup_at _ rfl _ _ 62 rfl 9 99 strKeyOk Try.underlying62 Try.underlying9 _ (Try.zeroVersions _) b rfl key rfl _ HM.out ?_; rw [HLK.out]; simp only [Option.getD_some]))
    | (at_delete; go_must (refine wpList_delete_at _ rfl _ _ 62 9 rfl 99 strKeyOk Try.underlying62 Try.underlying9 b rfl key rfl _ HM.out ?_; intro w1 hm1 hk1 hz1)))
  refine bodyPost_ret (results_none rfl _ _ _) rfl ⟨rfl, ?_⟩
  obtain ⟨f1, f2⟩ := HST.out.forgot key (kv' := R.kv) (keys' := R.keys) (b := b) hk1 (fun k _ e => .inr (.inr (by rw [HVM.out, e]))) ((hk1.block R.sb hlt hsb).trans HST.out.top)
    (HST.out.past.keysRow.kept hk1 (fun g hg e => (hkv g hg).1 e)) HVM.out hm1 rfl
  refine ⟨del R.hist key, f1, fun k => ?_, fun k hk => ?_, fun hf p hp => hf p ((del_sublist _ _).subset hp), hk1.mono (fun k _ e => ?_), fun k hk => .inl (f2.subset hk)⟩
  · rw [versOf_del (hist_nodup HST.out.past)]
    by_cases e : k = key
    · subst e
      rw [if_pos rfl, if_pos rfl]
      have hv : versOf R.hist k = x.vers := by unfold versOf; rw [HX.out]; rfl
      rw [hv, List.drop_of_length_le (by rw [HN.out]; exact Nat.le_refl _)]
    · rw [if_neg e, if_neg e]
  · rw [look_del _ (hist_nodup HST.out.past)] at hk
    by_cases e : key = k
    · rw [if_pos e] at hk; cases hk
    · rwa [if_neg e] at hk
  · have e' : k = b := e
    simp only [Rep.fp, Rep.fpPast, List.mem_cons, List.mem_append]
    exact .inr (.inr (.inl (.inr (by rw [HVM.out, e']; simp))))

theorem drop_cells (vs : List Ver) (n : Nat) : (vs.drop n).flatMap Ver.cells = (vs.flatMap Ver.cells).drop (n * 3) := by
  induction vs generalizing n with
  | nil => simp
  | cons v vs ih =>
    cases n with
    | zero => simp
    | succ n =>
      rw [List.drop_succ_cons, ih]
      have e : (n + 1) * 3 = 3 + n * 3 := by omega
      simp only [List.flatMap_cons]
      rw [e, List.drop_append]
      simp [Ver.cells]

theorem cells_one (vs : List Ver) : ∀ u ∈ vs.flatMap Ver.cells, u.oneCell' = true := by
  intro u hu
  obtain ⟨v, _, hu⟩ := List.mem_flatMap.1 hu
  simp only [Ver.cells, List.mem_cons, List.not_mem_nil, or_false] at hu
  rcases hu with rfl | rfl | rfl <;> rfl

theorem throw_grown {w w1 : World} {sb b g : Nat} {l : List (ByteArray × Value)} {u : Value} (hgb : g ≠ sb ∧ g ≠ b ∧ g < w.heap.size) (hM : MapAt Value.string w b l) (c6 : w.cell? ⟨sb, 8, none⟩ = some u) (hg : w.drew.grownBy w1 (Value.slice (some ⟨g, 0, none⟩) 0 0).ownBlock) :
    Keeps (· = g) w w1 ∧ MapAt Value.string w1 b l ∧ w1.cell? ⟨sb, 8, none⟩ = some u := by
  have hk : Keeps (· = g) w w1 := (Keeps.drew _ w).tr (Keeps.grown hg) (fun k e => by simpa [Value.ownBlock] using e)
  exact ⟨hk, hM.kept hk (fun e => hgb.2.1 e.symm), hk.cell (p := ⟨sb, 8, none⟩) c6 (fun e => hgb.1 e.symm)⟩

set_option maxRecDepth 100000 in
set_option maxHeartbeats 1000000 in
/-- some of them -/
theorem throw_some (R : Rep) (key : ByteArray) (x : HsR) (n m : Nat) (w : World) (h : StoreAt w R) (hx : look R.hist key = some x) (hn : x.vers.length = n + (m + 1)) (hl : n + (m + 1) < 1000000000000) :
    Calls Try.prog 63 #[.pointer (some ⟨R.sb, 7, none⟩), .string key, .int .i64 (n : Nat)] w fun e w' => e = .returned (.tuple #[]) ∧ ThrowPost R key n w w' := by
  obtain ⟨b, hvm, hM, c6, hsb, hbs, hkv⟩ := throw_setup h hx
  have hR := h.past.histEach _ (look_mem hx)
  simp only at hR
  obtain ⟨g, cap, hsv⟩ : ∃ g cap, x.sl = .slice (some ⟨g, 0, none⟩) (n + (m + 1)) cap := by
    rw [hn] at hR
    exact hR.succ (n := n + m)
  have hlk : look (R.hist.map fun p => (p.1, p.2.sl)) key = some (.slice (some ⟨g, 0, none⟩) (n + (m + 1)) cap) := by rw [look_map, hx]; simp [hsv]
  have hgb := hbs g (by rw [hsv]; rfl)
  rw [hsv, hn] at hR
  obtain ⟨hcap, hcm⟩ : n + (m + 1) ≤ cap ∧ cap ≤ maxLen := by
    rcases hR.shape with ⟨e, _⟩ | ⟨g', cap', e, h1, h2⟩
    · cases e
    · simp at e
      exact ⟨by rw [e.2]; exact h1, by rw [e.2]; exact h2⟩
  have hdest : Row w 79 3 (.slice (some ⟨g, 0, none⟩) 0 0) 0 [] := by
    obtain ⟨cur, hcur⟩ := hR.cellsAt (g := g) rfl
    exact ⟨rfl, .inr ⟨g, 0, cur, rfl, hcur, Nat.le_refl _, Nat.zero_le _, by simp, by simp⟩⟩
  have hnews : ∀ (W : World), W.heap[g]? = w.heap[g]? → ∀ j u, ((x.vers.drop n).flatMap Ver.cells)[j]? = some u → W.cell? ((⟨g, n * 3, none⟩ : Addr).add j) = some u := fun W hW j u hj => by
    rw [drop_cells, List.getElem?_drop] at hj
    have e : ((⟨g, n * 3, none⟩ : Addr).add j) = ⟨g, n * 3 + j, none⟩ := by unfold Addr.add; by_cases h0 : j = 0 <;> simp [h0]
    have hjl : n * 3 + j < (n + (m + 1)) * 3 := by
      have := (List.getElem?_eq_some_iff.1 hj).1
      rw [cells_length, hn] at this
      exact this
    have hc := hR.cellAt (n * 3 + j) hjl
    rw [hj] at hc
    rw [e, ← hc]
    simp only [World.cell?, hW]
  unfold maxLen at hcm
  have hcn : ¬ cap = n := by omega
  have hle : (n : Int) ≤ (n : Int) + ((m : Int) + 1) := by omega
  have hen : ((n : Int) == (n : Int) + ((m : Int) + 1)) = false := by simp; omega
  have HST := hid h
  have HX := hid hx
  have HVM := hid hvm
  have HM := hid hM
  have HLK := hid hlk
  have HN := hid hn
  have HD := hid hdest
  have HNW := hid hnews
  have HSV := hid hsv
  have hlt := h.lt
  have hbl := hM.lt
  obtain ⟨i0, hi, hz0, hz1, hz2⟩ := info_parts Try.infoVersion
  clear hM hlk hx h hvm hsv hR hn hdest hnews
  go_enter Try.func63, Try.ntmps63
  go_wp2_with (at_lookup; go_must (refine wpList_lookup_at _ rfl _ _ 62 rfl 9 99 strKeyOk Try.underlying62 Try.underlying9 _ (Try.zeroVersions _) b rfl key rfl _ HM.out ?_; rw [HLK.out]; simp only [Option.getD_some]))
  go_region_held3 (fun W => W.cell? ⟨R.sb, 8, none⟩ = some (.map (some b))) (go_keep)
    ((refine step_append_row _ (by rfl) _ _ 99 (by rfl) 79 i0 _ 3 32 Try.underlying99 hi hz0 hz1 hz2 (by rfl) (.slice (some ⟨g, 0, none⟩) 0 0) 0 [] (by rfl) (HD.out.kept (Keeps.drew (fun _ => False) w) (fun _ _ h => h)) ⟨g, n * 3, none⟩ (m + 1) (cap - n) ((x.vers.drop n).flatMap Ver.cells) (by rfl) (by rw [cells_length, List.length_drop, HN.out]; omega) (HNW.out _ rfl) (cells_one _) (by unfold maxLen; omega) (by omega) ?_; intro v' w1 hown' hgrow _ hat; rw [Nat.zero_add, List.nil_append] at hown'; obtain ⟨g', cap', rfl⟩ := hown'.succ; obtain ⟨hkw, hmw, r0⟩ := throw_grown hgb HM.out c6 hgrow; obtain ⟨ob, hrun, hM1⟩ := hmw.update (P := Try.prog) (t := 62) strKeyOk Try.underlying62 Try.underlying9 key (.slice (some ⟨g', 0, none⟩) (m + 1) cap'); have t0 := (Keeps.setBlock w1 b ob).cell (p := ⟨R.sb, 8, none⟩) r0 hsb))
  go_end0
  have hsl : slOf R.hist key = .slice (some ⟨g, 0, none⟩) (n + (m + 1)) cap := by unfold slOf; rw [HX.out]; exact HSV.out
  have hvs : versOf R.hist key = x.vers := by unfold versOf; rw [HX.out]; rfl
  have hkk : Keeps (fun k => k = g ∨ k = b) w (Go.ChangeMaps.setBlock w1 b ob) := (hkw.mono (fun _ _ h => .inl h)).tr (Keeps.setBlock w1 b ob) (fun _ h => .inr h)
  have hg' : g' = g ∨ w.heap.size ≤ g' := by
    rcases hat with h | h
    · left; simpa [Value.ownBlock] using h
    · right
      have h' : g' = w.drew.heap.size := by simpa [Value.ownBlock] using h
      have h'' : g' = w.heap.size := h'
      omega
  have hgb' : g' ≠ b := by
    rcases hg' with h | h
    · rw [h]; exact hgb.2.1
    · omega
  have c2 : ∀ k, (Value.slice (some ⟨g', 0, none⟩) (m + 1) cap').ownBlock = some k → (slOf R.hist key).ownBlock = some k ∨ w.heap.size ≤ k := fun k hk => by
    have hk' : g' = k := own_eq hk
    rw [hsl]
    rcases hg' with h | h
    · left; rw [← hk', h]; rfl
    · right; omega
  have hlen : (x.vers.drop n).length = m + 1 := by rw [List.length_drop, HN.out]; omega
  have hS := HST.out.added key (kv' := R.kv) (sl' := .slice (some ⟨g', 0, none⟩) (m + 1) cap') (keys' := R.keys) (b := b) (vs' := x.vers.drop n) hkk (fun k _ hs => by
      rcases hs with hs | hs
      · exact .inr (.inr (.inr (by rw [hsl, hs]; rfl)))
      · exact .inr (.inr (.inl (by rw [HVM.out, hs]))))
    (by
      have e : topCells { R with kv := R.kv, vm := some b } = topCells R := by simp [topCells, HVM.out]
      rw [e]
      exact (hkk.block R.sb hlt (by rintro (h | h); exact hgb.1 h.symm; exact hsb h)).trans HST.out.top)
    (HST.out.past.keysRow.kept hkk (fun k hk => by
      rintro (h | h)
      · exact (hkv k hk).2 (by rw [HSV.out, h]; rfl)
      · exact (hkv k hk).1 h)) hM1
    (by
      rw [hlen]
      exact hown'.kept (Keeps.setBlock w1 b ob) (fun k hk e => hgb' (by rw [own_eq hk]; exact e)))
    (fun k hk => .inl hk) c2 (.inl HVM.out) (by
      cases hkb : R.kv.ownBlock with
      | none => simp [Value.ownBlock, hgb']
      | some k =>
        have h1 := hkv k hkb
        have h3 := HST.out.past.keysRow.lt hkb
        have h2 : k ≠ g' := by
          rcases hg' with h | h
          · exact fun e => h1.2 (by rw [HSV.out, e, h]; rfl)
          · omega
        simp [Value.ownBlock, hgb', h1.1, h2])
  have eR : ({ R with kv := R.kv, keys := R.keys, vm := some b, hist := put R.hist key ⟨.slice (some ⟨g', 0, none⟩) (m + 1) cap', x.vers.drop n⟩ } : Rep) = { R with hist := put R.hist key ⟨.slice (some ⟨g', 0, none⟩) (m + 1) cap', x.vers.drop n⟩ } := by rw [← HVM.out]
  rw [eR] at hS
  refine ⟨rfl, _, hS, fun k => ?_, fun k hk => ?_, fun hf p hp => ?_, hkk.mono (fun k _ h => ?_), fun k hk => ?_⟩
  · rw [versOf_put, hvs]
    by_cases e : key = k
    · rw [if_pos e, if_pos e.symm]
    · rw [if_neg e, if_neg (fun h => e h.symm)]
  · rw [look_put] at hk
    by_cases e : key = k
    · rw [← e, HX.out]; rfl
    · rwa [if_neg e] at hk
  · rcases mem_put (hist_nodup HST.out.past) hp with rfl | ⟨h1, _⟩
    · intro e
      have : (x.vers.drop n).length = 0 := by
        have e' : x.vers.drop n = [] := e
        rw [e']; rfl
      omega
    · exact hf p h1
  · rw [(fp_perm R key).mem_iff, hsl]
    rcases h with h | h
    · exact List.mem_append_right _ (List.mem_append_left _ (by rw [h]; simp [Value.ownBlock]))
    · exact List.mem_append_right _ (List.mem_append_right _ (by simp [Rep.restOf, HVM.out, h]))
  · have e1 : slOf (put R.hist key ⟨.slice (some ⟨g', 0, none⟩) (m + 1) cap', x.vers.drop n⟩) key = .slice (some ⟨g', 0, none⟩) (m + 1) cap' := by unfold slOf; rw [look_put_same]; rfl
    rw [(fp_perm _ key).mem_iff] at hk
    simp only [e1] at hk
    rcases List.mem_append.1 hk with hk | hk
    · exact .inl ((fp_perm R key).mem_iff.2 (List.mem_append_left _ hk))
    · rcases List.mem_append.1 hk with hk | hk
      · have hk' : (Value.slice (some ⟨g', 0, none⟩) (m + 1) cap').ownBlock = some k := by simpa using hk
        rcases c2 k hk' with h | h
        · exact .inl ((fp_perm R key).mem_iff.2 (List.mem_append_right _ (List.mem_append_left _ (by simp [h]))))
        · exact .inr h
      · have e2 : Rep.restOf { R with hist := put R.hist key ⟨.slice (some ⟨g', 0, none⟩) (m + 1) cap', x.vers.drop n⟩ } key = R.restOf key := by simp only [Rep.restOf, Rep.fpWorks, del_put]
        rw [e2] at hk
        exact .inl ((fp_perm R key).mem_iff.2 (List.mem_append_right _ (List.mem_append_right _ hk)))

end Go.Proofs.Ytfcocbcihhdbkaa

/- What Sweep of what has been keeps between its rounds. -/
namespace Go.Proofs.Ytfcocbcihhdbkaa
open Go.RowKit Go.Shelf

/-- is anything left of a key's versions? -/
def staysB (R : Rep) (L : Int) (k : ByteArray) : Bool := decide (needN (versOf R.hist k) L < (versOf R.hist k).length)

/-- the keys of which something is left, among the first i -/
def leftL (R : Rep) (L : Int) (i : Nat) : List ByteArray := (R.keys.take i).filter (staysB R L)

theorem leftL_succ {R : Rep} {L : Int} {i : Nat} (hi : i < R.keys.length) : leftL R L (i + 1) = leftL R L i ++ (if staysB R L R.keys[i] = true then [R.keys[i]] else []) := by
  unfold leftL
  rw [List.take_succ_eq_append_getElem hi, List.filter_append]
  congr 1
  cases h : staysB R L R.keys[i] <;> simp [h]

structure SweepS (w : World) (R : Rep) (L : Int) (cb nf : Nat) (C0 : List Nat) (pB i j : Nat) (hist : List (ByteArray × HsR)) (fs : List Value) (C : List Nat) (vl : Value) (wr : World) : Prop where
  st : StoreAt wr { R with hist := hist }
  vers : ∀ k, versOf hist k = if memB (R.keys.take i) k then (versOf R.hist k).drop (needN (versOf R.hist k) L) else versOf R.hist k
  some_ : ∀ k, (look hist k).isSome = true → (look R.hist k).isSome = true
  filled : ∀ p ∈ hist, p.2.vers ≠ []
  row : Row wr 9 1 vl (leftL R L j).length ((leftL R L j).map Value.string)
  own : ∀ g, vl.ownBlock = some g → w.heap.size < g ∧ g ∉ C ∧ g ∉ Rep.fp { R with hist := hist }
  chg : Chg wr cb fs C
  len : fs.length ≤ nf + i
  cfr : ∀ k ∈ C, k ∈ C0 ∨ w.heap.size < k
  ffr : ∀ k ∈ Rep.fp { R with hist := hist }, k ∈ R.fp ∨ w.heap.size < k
  apart : ∀ k ∈ C, k ∉ Rep.fp { R with hist := hist }
  box : wr.heap[pB]? = some (.cells #[.pointer (some ⟨R.sb, 7, none⟩)] 98 (0, 0))
  keep : Keeps (fun k => k ∈ R.fp ∨ k ∈ C0) w wr
  size : w.heap.size < wr.heap.size

theorem SweepS.kept {w : World} {R : Rep} {L : Int} {cb nf : Nat} {C0 : List Nat} {pB i j : Nat} {hist : List (ByteArray × HsR)} {fs : List Value} {C : List Nat} {vl : Value} {wr wr' : World} (h : SweepS w R L cb nf C0 pB i j hist fs C vl wr) (hk : Keeps (fun _ => False) wr wr') : SweepS w R L cb nf C0 pB i j hist fs C vl wr' :=
  ⟨h.st.kept hk (fun _ _ h => h), h.vers, h.some_, h.filled, h.row.kept hk (fun _ _ h => h), h.own, h.chg.kept hk (fun _ _ h => h), h.len, h.cfr, h.ffr, h.apart, (hk.block pB (Array.getElem?_eq_some_iff.1 h.box).1 (fun h => h)).trans h.box, h.keep.tr hk (fun _ h => h.elim), Nat.lt_of_lt_of_le h.size hk.size⟩

/-- nothing is thrown away -/
theorem SweepS.stay {w : World} {R : Rep} {L : Int} {cb nf : Nat} {C0 : List Nat} {pB i j : Nat} {hist : List (ByteArray × HsR)} {fs : List Value} {C : List Nat} {vl : Value} {wr : World} (h : SweepS w R L cb nf C0 pB i j hist fs C vl wr) (hi : i < R.keys.length) (hn : needN (versOf R.hist R.keys[i]) L = 0) : SweepS w R L cb nf C0 pB (i + 1) j hist fs C vl wr := by
  refine ⟨h.st, fun k => ?_, h.some_, h.filled, h.row, h.own, h.chg, Nat.le_trans h.len (by omega), h.cfr, h.ffr, h.apart, h.box, h.keep, h.size⟩
  rw [h.vers k, List.take_succ_eq_append_getElem hi, memB_snoc]
  by_cases e : R.keys[i] = k
  · subst e
    simp only [decide_true, Bool.or_true, if_true, hn, List.drop_zero]
    split <;> rfl
  · simp [e]

/-- a key of which nothing is left is not noted -/
theorem SweepS.skip {w : World} {R : Rep} {L : Int} {cb nf : Nat} {C0 : List Nat} {pB i : Nat} {hist : List (ByteArray × HsR)} {fs : List Value} {C : List Nat} {vl : Value} {wr : World} {j : Nat} (h : SweepS w R L cb nf C0 pB i j hist fs C vl wr) (hj : j < R.keys.length) (hn : staysB R L R.keys[j] = false) : SweepS w R L cb nf C0 pB i (j + 1) hist fs C vl wr := by
  have e : leftL R L (j + 1) = leftL R L j := by rw [leftL_succ hj, hn]; simp
  exact ⟨h.st, h.vers, h.some_, h.filled, by rw [e]; exact h.row, h.own, h.chg, h.len, h.cfr, h.ffr, h.apart, h.box, h.keep, h.size⟩

/-- one that stays is -/
theorem SweepS.note {w : World} {R : Rep} {L : Int} {cb nf : Nat} {C0 : List Nat} {pB i : Nat} {hist : List (ByteArray × HsR)} {fs : List Value} {C : List Nat} {vl vl' : Value} {wr w1 : World} {o : Obj} {j : Nat} (h : SweepS w R L cb nf C0 pB i j hist fs C vl wr) (hj : j < R.keys.length) (hn : staysB R L R.keys[j] = true) (hpB : pB = w.heap.size)
    (hr : Row w1 9 1 vl' ((leftL R L j).length + 1) ((leftL R L j).map Value.string ++ [.string R.keys[j]])) (hg : (wr.alloc o).grownBy w1 vl.ownBlock) (ho : vl'.ownBlock = vl.ownBlock ∨ vl'.ownBlock = some (wr.alloc o).heap.size) : SweepS w R L cb nf C0 pB i (j + 1) hist fs C vl' w1 := by
  have e : leftL R L (j + 1) = leftL R L j ++ [R.keys[j]] := by rw [leftL_succ hj, hn]; simp
  have hk : Keeps (fun k => some k = vl.ownBlock) wr w1 := ((Keeps.refl _ wr).al o).tr (Keeps.grown hg) (fun _ h => h)
  have hfl := fp_lt h.st
  have hcl := h.chg.lt
  have hsz := h.size
  have hzw : wr.heap.size + 1 ≤ w1.heap.size := by have := hg.size; simpa using this
  refine ⟨h.st.kept hk (fun k hk' e => (h.own k e.symm).2.2 hk'), h.vers, h.some_, h.filled, by rw [e]; simpa using hr, fun g hgv => ?_, h.chg.kept hk (fun k hkC e => (h.own k e.symm).2.1 hkC), h.len, h.cfr, h.ffr, h.apart, ?_, h.keep.trans hk (fun k hk' e => ?_), by omega⟩
  · rcases ho with e1 | e1
    · exact h.own g (by rw [← e1]; exact hgv)
    · rw [hgv] at e1
      simp at e1
      exact ⟨by omega, fun hc => by have := hcl g hc; omega, fun hf => by have := hfl g hf; omega⟩
  · refine (hk.block pB (Array.getElem?_eq_some_iff.1 h.box).1 (fun e => ?_)).trans h.box
    have := (h.own pB e.symm).1
    omega
  · have := (h.own k e.symm).1
    omega

/-- a key's first versions go -/
theorem SweepS.thrown {w : World} {R : Rep} {L : Int} {cb nf : Nat} {C0 : List Nat} {pB i j : Nat} {hist : List (ByteArray × HsR)} {fs fs' : List Value} {C C' : List Nat} {vl : Value} {wr w1 w2 : World} (h : SweepS w R L cb nf C0 pB i j hist fs C vl wr) (hr : Rises R.keys) (hi : i < R.keys.length) (hpB : pB = w.heap.size) (hC0 : ∀ k ∈ C0, k < w.heap.size) (hRf : ∀ k ∈ R.fp, k < w.heap.size)
    (hc : Chg w1 cb fs' C') (hl : fs'.length ≤ fs.length + 1) (hk1 : Keeps (· ∈ C) wr w1) (hC' : ∀ k ∈ C', k ∈ C ∨ wr.heap.size ≤ k) (ht : ThrowPost { R with hist := hist } R.keys[i] (needN (versOf R.hist R.keys[i]) L) w1 w2) :
    ∃ hist', SweepS w R L cb nf C0 pB (i + 1) j hist' fs' C' vl w2 := by
  obtain ⟨hist', t1, t2, t3, t4, t5, t6⟩ := ht
  have hsz := h.size
  have hz1 := hk1.size
  have hfl := fp_lt h.st
  have hcl := h.chg.lt
  have hni : memB (R.keys.take i) R.keys[i] = false := by
    cases hm : memB (R.keys.take i) R.keys[i] with
    | false => rfl
    | true =>
      have hm' := (memB_iff _ _).1 hm
      obtain ⟨q, hq, e⟩ := List.getElem_of_mem hm'
      simp only [List.length_take] at hq
      rw [List.getElem_take] at e
      have := (List.getElem_inj (rises_nodup hr)).1 e
      omega
  have hvi : versOf hist R.keys[i] = versOf R.hist R.keys[i] := by rw [h.vers, hni]; simp
  have hsb : ∀ k ∈ Rep.fp { R with hist := hist' }, k ∈ Rep.fp { R with hist := hist } ∨ w1.heap.size ≤ k := t6
  refine ⟨hist', t1, fun k => ?_, fun k hk => h.some_ k (t3 k hk), t4 h.filled, ?_, fun g hg => ?_, hc.kept t5 (fun k hk hf => ?_), ?_, fun k hk => ?_, fun k hk => ?_, fun k hk hf => ?_, ?_, ?_, ?_⟩
  · rw [t2 k, List.take_succ_eq_append_getElem hi, memB_snoc]
    by_cases e : k = R.keys[i]
    · subst e
      simp only [if_true, decide_true, Bool.or_true]
      have e2 : versOf ({ R with hist := hist } : Rep).hist R.keys[i] = versOf R.hist R.keys[i] := hvi
      rw [e2]
    · have e' : ¬ R.keys[i] = k := fun h => e h.symm
      rw [if_neg e]
      have e2 : versOf ({ R with hist := hist } : Rep).hist k = versOf hist k := rfl
      rw [e2, h.vers k]
      simp [e']
  · exact (h.row.kept hk1 (fun g hg hgC => (h.own g hg).2.1 hgC)).kept t5 (fun g hg hf => (h.own g hg).2.2 hf)
  · obtain ⟨o1, o2, o3⟩ := h.own g hg
    have hgl := h.row.lt hg
    refine ⟨o1, fun hc' => ?_, fun hf => ?_⟩
    · rcases hC' g hc' with h1 | h1
      · exact o2 h1
      · omega
    · rcases hsb g hf with h1 | h1
      · exact o3 h1
      · omega
  · rcases hC' k hk with h1 | h1
    · exact h.apart k h1 hf
    · have := hfl k hf
      omega
  · have := h.len
    omega
  · rcases hC' k hk with h1 | h1
    · exact h.cfr k h1
    · right; omega
  · rcases hsb k hk with h1 | h1
    · exact h.ffr k h1
    · right; omega
  · rcases hC' k hk with h1 | h1
    · rcases hsb k hf with h2 | h2
      · exact h.apart k h1 h2
      · have := hcl k h1; omega
    · rcases hsb k hf with h2 | h2
      · have := hfl k h2; omega
      · have := hc.lt k hk; omega
  · have b1 : w1.heap[pB]? = some (.cells #[.pointer (some ⟨R.sb, 7, none⟩)] 98 (0, 0)) := (hk1.block pB (Array.getElem?_eq_some_iff.1 h.box).1 (fun hc' => by
      rcases h.cfr pB hc' with h1 | h1
      · have := hC0 pB h1; omega
      · omega)).trans h.box
    refine (t5.block pB (Array.getElem?_eq_some_iff.1 b1).1 (fun hf => ?_)).trans b1
    rcases h.ffr pB hf with h1 | h1
    · have := hRf pB h1; omega
    · omega
  · refine (h.keep.trans hk1 (fun k hk hc' => ?_)).trans t5 (fun k hk hf => ?_)
    · rcases h.cfr k hc' with h1 | h1
      · exact .inr h1
      · omega
    · rcases h.ffr k hf with h1 | h1
      · exact .inl h1
      · omega
  · have := t5.size
    omega

theorem needN_le (vs : List Ver) (t : Int) : needN vs t ≤ vs.length := by
  have h := upN_le vs t
  unfold needN
  split
  · split <;> omega
  · omega

/-- The list of keys is another one. -/
theorem StoreAt.newKeys {w : World} {R : Rep} {vl : Value} {ks : List ByteArray} (h : StoreAt w R) (hr : Row w 9 1 vl ks.length (ks.map Value.string)) (hown : ∀ g, vl.ownBlock = some g → g ∉ R.fp) :
    StoreAt (w.setCell ⟨R.sb, 7, none⟩ vl) { R with kv := vl, keys := ks } ∧ ∀ k ∈ Rep.fp { R with kv := vl, keys := ks }, k ∈ R.fp ∨ vl.ownBlock = some k := by
  have hk : Keeps (· = R.sb) w (w.setCell ⟨R.sb, 7, none⟩ vl) := Keeps.setCell w ⟨R.sb, 7, none⟩ vl
  have hnd := h.nodup
  simp only [Rep.fp, List.nodup_cons, List.mem_append, not_or] at hnd
  have hmem : ∀ k ∈ Rep.fp { R with kv := vl, keys := ks }, k ∈ R.fp ∨ vl.ownBlock = some k := fun k hk' => by
    simp only [Rep.fp, Rep.fpWorks, Rep.fpPast, List.mem_cons, List.mem_append, Option.mem_toList] at hk' ⊢
    rcases hk' with h1 | h1 | (h1 | h1) | h1
    · exact .inl (.inl h1)
    · exact .inl (.inr (.inl h1))
    · exact .inr h1
    · exact .inl (.inr (.inr (.inl (.inr h1))))
    · exact .inl (.inr (.inr (.inr h1)))
  have hsbo : vl.ownBlock ≠ some R.sb := fun e => hown R.sb e (by simp [Rep.fp])
  refine ⟨⟨?_, ?_, ⟨?_, ?_, ?_⟩, ?_⟩, hmem⟩
  · show (w.setCell ⟨R.sb, 7, none⟩ vl).heap[R.sb]? = _
    rw [heap_setCell_same h.top]
    simp [topCells]
  · have hw := h.works.kept hk (fun k hk' e => hnd.1.1 (by rw [← e]; exact hk'))
    exact ⟨hw.worksMap, hw.worksEach, hw.pinsMap, hw.copyMap⟩
  · exact hr.kept hk (fun g hg e => hsbo (by rw [hg, e]))
  · exact h.past.histMap.kept hk (fun b hb e => hnd.1.2 (by rw [← e]; simp [Rep.fpPast, hb]))
  · intro p hp
    refine (h.past.histEach p hp).kept hk (fun g hg e => hnd.1.2 ?_)
    rw [← e]
    simp only [Rep.fpPast, List.mem_append, List.mem_flatMap]
    exact .inr ⟨p, hp, by simp [hg]⟩
  · have hsub : (Rep.fpPast { R with kv := vl, keys := ks }) = vl.ownBlock.toList ++ (R.vm.toList ++ R.hist.flatMap (fun p => p.2.sl.ownBlock.toList)) := by simp [Rep.fpPast]
    have hold : R.fpPast = R.kv.ownBlock.toList ++ (R.vm.toList ++ R.hist.flatMap (fun p => p.2.sl.ownBlock.toList)) := by simp [Rep.fpPast]
    have hn := h.nodup
    rw [Rep.fp, hold] at hn
    rw [Rep.fp, hsub]
    show (R.sb :: (R.fpWorks ++ (vl.ownBlock.toList ++ (R.vm.toList ++ R.hist.flatMap (fun p => p.2.sl.ownBlock.toList))))).Nodup
    have hrest : (R.sb :: (R.fpWorks ++ (R.vm.toList ++ R.hist.flatMap (fun p => p.2.sl.ownBlock.toList)))).Nodup := hn.sublist (List.Sublist.cons_cons _ (List.Sublist.append (List.Sublist.refl _) (List.sublist_append_right _ _)))
    cases hv : vl.ownBlock with
    | none => simpa using hrest
    | some g =>
      have hg := hown g hv
      rw [Rep.fp, hold] at hg
      simp only [List.mem_cons, List.mem_append, not_or] at hg
      have hp : (R.sb :: (R.fpWorks ++ ([g] ++ (R.vm.toList ++ R.hist.flatMap (fun p => p.2.sl.ownBlock.toList))))).Perm (g :: (R.sb :: (R.fpWorks ++ (R.vm.toList ++ R.hist.flatMap (fun p => p.2.sl.ownBlock.toList))))) := by
        refine List.Perm.trans (List.Perm.cons _ ?_) (List.Perm.swap _ _ _)
        exact List.perm_middle
      rw [Option.toList_some]
      refine hp.nodup_iff.2 (List.nodup_cons.2 ⟨?_, hrest⟩)
      simp only [List.mem_cons, List.mem_append, not_or]
      exact ⟨hg.1, hg.2.1, hg.2.2.2⟩

/-- A new box is none of what is old. -/
theorem new_box {wr w3 w4 : World} {S : Nat → Prop} {b : Nat} {o : Obj} (h : w3.heap[b]? = some o) (hb : wr.heap.size ≤ b) (hk : Keeps S w3 w4) (hS : ∀ k, S k → k < wr.heap.size) : w4.heap[b]? = some o :=
  (hk.block b (Array.getElem?_eq_some_iff.1 h).1 (fun e => by have := hS b e; omega)).trans h

end Go.Proofs.Ytfcocbcihhdbkaa

/- Sweep of what has been, walked. -/
namespace Go.Proofs.Ytfcocbcihhdbkaa
open Go.RowKit Go.Shelf

theorem Try.infoStr : (Try.prog.info? 9).map (fun i => (i.zero, i.size, i.bytes)) = some (some (.string ⟨#[]⟩), 1, 16) := by kernel_rfl

/-- What Sweep of what has been leaves. -/
def PastSwept (R : Rep) (L : Int) (C0 : List Nat) (w w' : World) : Prop :=
  ∃ hist vl, StoreAt w' { R with kv := vl, keys := leftL R L R.keys.length, hist := hist } ∧ (∀ k, versOf hist k = if memB R.keys k then (versOf R.hist k).drop (needN (versOf R.hist k) L) else versOf R.hist k) ∧
    (∀ k, (look hist k).isSome = true → (look R.hist k).isSome = true) ∧ (∀ p ∈ hist, p.2.vers ≠ []) ∧ Keeps (fun k => k ∈ R.fp ∨ k ∈ C0) w w' ∧ ∀ k ∈ Rep.fp { R with kv := vl, keys := leftL R L R.keys.length, hist := hist }, k ∈ R.fp ∨ w.heap.size < k

/-- how many versions go of the first i keys -/
def thrownN (R : Rep) (L : Int) (i : Nat) : Nat := ((R.keys.take i).map (fun k => needN (versOf R.hist k) L)).sum
/-- how many versions there are -/
def Rep.total (R : Rep) : Nat := (R.keys.map (fun k => (versOf R.hist k).length)).sum

theorem thrownN_succ {R : Rep} {L : Int} {i : Nat} (hi : i < R.keys.length) : thrownN R L (i + 1) = thrownN R L i + needN (versOf R.hist R.keys[i]) L := by
  unfold thrownN
  rw [List.take_succ_eq_append_getElem hi, List.map_append, List.sum_append]
  simp only [List.map_cons, List.map_nil, List.sum_cons, List.sum_nil, Nat.add_zero]

theorem sum_map_le {α : Type} (f g : α → Nat) (h : ∀ a, f a ≤ g a) : ∀ l : List α, (l.map f).sum ≤ (l.map g).sum
  | [] => by simp
  | a :: l => by have := h a; have := sum_map_le f g h l; simp; omega

theorem sum_take_le {α : Type} (f : α → Nat) : ∀ (l : List α) (i : Nat), ((l.take i).map f).sum ≤ (l.map f).sum
  | [], i => by simp
  | a :: l, 0 => by simp
  | a :: l, i + 1 => by have := sum_take_le f l i; simp only [List.take_succ_cons, List.map_cons, List.sum_cons]; omega

theorem thrownN_le (R : Rep) (L : Int) (i : Nat) : thrownN R L i ≤ R.total := by
  unfold thrownN Rep.total
  refine Nat.le_trans (sum_map_le _ (fun k => (versOf R.hist k).length) (fun k => needN_le _ _) _) (sum_take_le _ _ _)

set_option maxRecDepth 100000 in
set_option maxHeartbeats 4000000 in
theorem pastSweep_any (R : Rep) (L : Int) (cb : Nat) (fs0 : List Value) (C0 : List Nat) (w : World) (h : StoreAt w R) (g : Good R) (t : Tied R) (hc : Chg w cb fs0 C0) (hap : ∀ k ∈ C0, k ∉ R.fp) (hl : fs0.length ≤ 10) (hkl : R.keys.length < 900000000000) (htot : R.total ≤ 1000000000000000) :
    Calls Try.prog 41 #[.pointer (some ⟨R.sb, 7, none⟩), .int .i64 L, .func (.func 42) #[.pointer (some ⟨cb, 0, none⟩)] #[]] w fun e w' => e = .returned (.int .i64 (thrownN R L R.keys.length)) ∧ PastSwept R L C0 w w' := by
  have hmf : ∀ (fn : Fn) (first cap : Array Value) (w : World), (Instr.makeFunc fn first cap).run Try.prog w = .ok (.func fn first cap) w := fun _ _ _ _ => rfl
  obtain ⟨av, cv, hkv, hkm, hsome⟩ := h.past.keysRow.form
  have c5 : w.cell? ⟨R.sb, 7, none⟩ = some (.slice av R.keys.length cv) := by rw [← hkv]; exact h.cell 7
  have hlt := h.lt
  have hfl := fp_lt h
  have hS0 : SweepS w R L cb fs0.length C0 w.heap.size 0 0 R.hist fs0 C0 (.slice none 0 0) (w.alloc (.cells #[.pointer (some ⟨R.sb, 7, none⟩)] 98)) := by
    have hk : Keeps (fun _ => False) w (w.alloc (.cells #[.pointer (some ⟨R.sb, 7, none⟩)] 98)) := Keeps.alloc _ _ _
    refine ⟨h.kept hk (fun _ _ h => h), fun k => by simp [memB], fun _ h => h, t.filled, Row.nil _ _ _, fun g hg => by simp [Value.ownBlock] at hg, hc.kept hk (fun _ _ h => h), by omega, fun k hk => .inl hk, fun k hk => .inl hk, hap, heap_new w _, hk.mono (fun _ _ h => h.elim), by simp⟩
  have HS0 := hid hS0
  have HST := hid h
  have HG := hid g
  have HT := hid t
  have HC := hid hc
  have HAP := hid hap
  have HKV := hid hkv
  have HSM := hid hsome
  have HFL := hid hfl
  have HTOT := hid htot
  clear hS0 h g t hc hap hkv hsome hfl htot
  go_enter Try.func41, Try.ntmps41
  go_wp2_with fail
  go_loopw [7, 8, 19] (fun th vl i wr => ∃ (k : Nat) (z : Int), k ≤ R.keys.length ∧ i = .int .i64 k ∧ th = .int .i64 z ∧ z = (thrownN R L k : Nat) ∧ ∃ hist fs C, SweepS w R L cb fs0.length C0 w.heap.size k k hist fs C vl wr) (fun _ _ i _ => R.keys.length - (intOf i).toNat)
  case atStart => exact ⟨0, 0, Nat.zero_le _, rfl, rfl, rfl, _, _, _, HS0.out⟩
  case round =>
    obtain ⟨k, z, hk, rfl, rfl, hzz, hist, fs, C, hS⟩ := hrel
    have hzb0 : 0 ≤ z := by rw [hzz]; omega
    have hzb1 : z ≤ 1000000000000000 := by rw [hzz]; have := thrownN_le R L k; have := HTOT.out; omega
    have HZ := hid hzz
    clear hzz
    have HS := hid hS
    clear hS HS0
    obtain ⟨al, cl, rfl, hlm, -⟩ := HS.out.row.form
    by_cases hlt2 : k < R.keys.length
    · obtain ⟨ga, rfl⟩ := HSM.out (by omega)
      have hrow := HS.out.st.past.keysRow
      simp only at hrow
      rw [HKV.out] at hrow
      obtain ⟨key, hkey⟩ : ∃ key, R.keys[k] = key := ⟨_, rfl⟩
      have ck : wr.cell? ⟨ga, k, none⟩ = some (.string key) := by
        rw [hrow.cellAt k (by omega)]
        simp [hlt2, hkey]
      have hkm2 : key ∈ R.keys := hkey ▸ List.getElem_mem hlt2
      have hni : memB (R.keys.take k) key = false := by
        cases hm : memB (R.keys.take k) key with
        | false => rfl
        | true =>
          have hm' := (memB_iff _ _).1 hm
          obtain ⟨q, hq, e⟩ := List.getElem_of_mem hm'
          simp only [List.length_take] at hq
          rw [List.getElem_take, ← hkey] at e
          have := (List.getElem_inj (rises_nodup HT.out.rises)).1 e
          omega
      have hvk : versOf hist key = versOf R.hist key := by rw [HS.out.vers, hni]; simp
      have hvne := vers_ne HT.out hkm2
      obtain ⟨x, hx, hxv⟩ : ∃ x, look hist key = some x ∧ x.vers = versOf R.hist key := by
        rw [← hvk]
        cases hl : look hist key with
        | none => rw [← hvk] at hvne; unfold versOf at hvne; rw [hl] at hvne; simp at hvne
        | some x => exact ⟨x, rfl, by unfold versOf; rw [hl]; rfl⟩
      obtain ⟨b, hvm, hM, c6, hsb, hbs, hkvb⟩ := throw_setup (R := { R with hist := hist }) HS.out.st hx
      have hrx := HS.out.st.past.histEach _ (look_mem hx)
      simp only at hrx
      obtain ⟨a2, c2, hxs, hxm, -⟩ := hrx.form
      obtain ⟨g1, g2⟩ := HG.out.vers key
      rw [← hxv] at g1 g2
      have HLKK : Hid (∀ W, Keeps (fun _ => False) wr W → (Instr.lookup 62 (.map (some b)) (.string key) false).run Try.prog W = .ok (.slice a2 x.vers.length c2) W) := fun W hk => by
        have := (hM.kept hk (fun h => h)).lookup (P := Try.prog) (t := 62) strKeyOk Try.underlying62 Try.underlying9 (Try.zeroVersions W) key false
        rw [look_map, hx] at this
        simp only [Option.map_some, Option.getD_some, hxs] at this
        exact this
      rw [hxs] at hrx
      have HND : Hid (∀ W, Keeps (fun _ => False) wr W → Calls Try.prog 61 #[.slice a2 x.vers.length c2, .int .i64 L] W fun e w' => e = .returned (.int .i64 (needN x.vers L : Nat)) ∧ Keeps (fun _ => False) W w') := fun W hk => needless_any _ _ _ W (hrx.kept hk (fun _ _ h => h)) g1 (by omega)
      have cb0 := cell_of_heap HS.out.box 0
      simp at cb0
      have hwsz := HS.out.size
      have HX := hid hx
      have HXV := hid hxv
      have HKEY := hid hkey
      have HVNE := hid hvne
      have HHK := hid (And.intro g1 g2)
      clear hrow hkm2 hni hvk hvne hx hxv hM hbs hkvb hrx g1 g2 hxs hkey HSM
      go_wp2_with fail
      have hlk1 := HLKK.out ((wr.alloc (.cells #[.string key] 9)).drew) (((Keeps.refl (fun _ => False) wr).al _).dr)
      have hlk2 := fun o => HLKK.out (((wr.alloc (.cells #[.string key] 9)).alloc o).drew) ((((Keeps.refl (fun _ => False) wr).al _).al _).dr)
      go_region_held3 (fun W => W.cell? ⟨w.heap.size, 0, none⟩ = some (.pointer (some ⟨R.sb, 7, none⟩)) ∧ W.cell? ⟨wr.heap.size, 0, none⟩ = some (.string key) ∧ W.cell? ⟨R.sb, 8, none⟩ = some (.map (some b))) (go_keep) (fail)
      all_goals
        obtain ⟨i0, hi, hz0, hz1, hz2⟩ := info_parts Try.infoStr
        have HK2 : Hid (Keeps (fun _ => False) wr (((wr.alloc (.cells #[.string key] 9)).alloc (.cells #[.slice a2 x.vers.length c2] 99)).drew)) := (((Keeps.refl _ wr).al _).al _).dr
        have BK : Hid ((((wr.alloc (.cells #[.string key] 9)).alloc (.cells #[.slice a2 x.vers.length c2] 99)).drew).heap[wr.heap.size]? = some (.cells #[.string key] 9 (0, 0))) := (Below.heap_alloc _ _ _ (by simp)).trans (heap_new wr _)
        have BA : Hid ((((wr.alloc (.cells #[.string key] 9)).alloc (.cells #[.slice a2 x.vers.length c2] 99)).drew).heap[wr.heap.size + 1]? = some (.cells #[.slice a2 x.vers.length c2] 99 (0, 0))) := by
          have := heap_new (wr.alloc (.cells #[.string key] 9)) (.cells #[.slice a2 x.vers.length c2] 99)
          rw [World.size_alloc] at this
          exact this
        have hnle := needN_le x.vers L
        have hlpos : 0 < x.vers.length := by
          have := HVNE.out
          rw [← HXV.out] at this
          exact List.length_pos_iff.2 this
        have hxb := HHK.out.2
        have hst : staysB R L R.keys[k] = decide (needN x.vers L < x.vers.length) := by unfold staysB; rw [HKEY.out, HXV.out]
        have hlf : (leftL R L k).length ≤ k := by
          unfold leftL
          exact Nat.le_trans (List.length_filter_le _ _) (List.length_take_le _ _)
        clear hlk1 hlk2 HLKK ck cb0 c6
        obtain ⟨nd, hnd⟩ : ∃ nd, needN x.vers L = nd := ⟨_, rfl⟩
        have HNE : Hid (needN (versOf R.hist R.keys[k]) L = nd) := by unfold Hid; rw [HKEY.out, ← HXV.out, hnd]
        rw [hnd] at HND hnle hst
        by_cases hn0 : nd = 0
        · subst hn0
          have HSTAY : Hid (staysB R L R.keys[k] = true) := by unfold Hid; rw [hst]; simpa using hlpos
          clear hst hnd
          generalize hln : x.vers.length = len at *
          go_wp2_with (first
            | (go_at_call 61; go_must (refine (HND.out _ HK2.out).mono ?_; rintro e w3 ⟨rfl, k3⟩; have K3 := hid (HK2.out.tr k3 (fun _ h => h)); have bk3 := new_box (wr := wr) BK.out (by omega) k3 (fun _ h => h.elim); have ba3 := new_box (wr := wr) BA.out (by omega) k3 (fun _ h => h.elim); have ck3 := cell_of_heap bk3 0; have ca3 := cell_of_heap ba3 0; simp at ck3 ca3; have BK3 := hid bk3; clear bk3 ba3 k3))
            | (at_builtin; go_must (refine wpList_append_row _ rfl _ _ 32 rfl 9 i0 (.string ⟨#[]⟩) 1 16 Try.underlying32 hi hz0 hz1 hz2 rfl (.slice al (leftL R L k).length cl) (leftL R L k).length _ rfl ((HS.out.row.kept K3.out (fun _ _ h => h)).kept (Keeps.alloc (fun _ => False) _ _) (fun _ _ h => h)) ⟨w3.heap.size, 0, none⟩ 1 1 [.string key] rfl rfl (cell_one_new _ _ _) (by simp [Value.oneCell']) (by unfold maxLen; omega) (by omega) ?_; intro vl' w4 hown' hgrow _ hat; obtain ⟨gl, cl', rfl⟩ := hown'.succ; have S4 := hid ((HS.out.kept K3.out).note hlt2 HSTAY.out rfl (by rw [HKEY.out]; exact hown') hgrow hat); have bk4 := new_box (wr := wr) ((Below.heap_alloc _ (.cells #[.string key] 9) _ (Array.getElem?_eq_some_iff.1 BK3.out).1).trans BK3.out) (by omega) (Keeps.grown hgrow) (fun j e => HS.out.row.lt e.symm); have ck4 := cell_of_heap bk4 0; have cb4 := cell_of_heap S4.out.box 0; simp at ck4 cb4; have BK4 := hid bk4; clear bk4 hown' hgrow hat)))
          have S5 := hid (S4.out.stay hlt2 HNE.out)
          exact ⟨⟨k + 1, z, by omega, by go_num, rfl, by rw [HZ.out, thrownN_succ hlt2, HNE.out]; rfl, _, _, _, S5.out⟩, by simp only [intOf]; omega⟩
        · have hndp : 0 < nd := by omega
          by_cases hnl : nd < x.vers.length
          · have HSTAY : Hid (staysB R L R.keys[k] = true) := by unfold Hid; rw [hst]; simpa using hnl
            obtain ⟨m, hm⟩ : ∃ m, x.vers.length = nd + (m + 1) := ⟨x.vers.length - nd - 1, by omega⟩
            have HLEN := hid hm
            have HLB : Hid (nd + (m + 1) < 1000000000000) := by have := vers_small2 HG.out key; rw [← HXV.out, hm] at this; show _ < _; omega
            have HTS : Hid (∀ W, StoreAt W { R with hist := hist } → Calls Try.prog 63 #[.pointer (some ⟨R.sb, 7, none⟩), .string key, .int .i64 (nd : Nat)] W fun e w' => e = .returned (.tuple #[]) ∧ ThrowPost { R with hist := hist } key nd W w') := fun W hW => throw_some { R with hist := hist } key x nd m W hW HX.out HLEN.out HLB.out
            clear hst hnd HLEN HLB
            generalize hln : x.vers.length = len at *
            have hlp2 : (0 : Int) < (nd : Int) := by omega
            have hln2 : (nd : Int) < (len : Int) := by omega
            clear hm
            go_wp2_with (first
              | (go_at_call 61; go_must (refine (HND.out _ HK2.out).mono ?_; rintro e w3 ⟨rfl, k3⟩; have K3 := hid (HK2.out.tr k3 (fun _ h => h)); have bk3 := new_box (wr := wr) BK.out (by omega) k3 (fun _ h => h.elim); have ba3 := new_box (wr := wr) BA.out (by omega) k3 (fun _ h => h.elim); have ck3 := cell_of_heap bk3 0; have ca3 := cell_of_heap ba3 0; simp at ck3 ca3; have BK3 := hid bk3; clear bk3 ba3 k3))
              | (at_builtin; go_must (refine wpList_append_row _ rfl _ _ 32 rfl 9 i0 (.string ⟨#[]⟩) 1 16 Try.underlying32 hi hz0 hz1 hz2 rfl (.slice al (leftL R L k).length cl) (leftL R L k).length _ rfl ((HS.out.row.kept K3.out (fun _ _ h => h)).kept (Keeps.alloc (fun _ => False) _ _) (fun _ _ h => h)) ⟨w3.heap.size, 0, none⟩ 1 1 [.string key] rfl rfl (cell_one_new _ _ _) (by simp [Value.oneCell']) (by unfold maxLen; omega) (by omega) ?_; intro vl' w4 hown' hgrow _ hat; obtain ⟨gl, cl', rfl⟩ := hown'.succ; have S4 := hid ((HS.out.kept K3.out).note hlt2 HSTAY.out rfl (by rw [HKEY.out]; exact hown') hgrow hat); have bk4 := new_box (wr := wr) ((Below.heap_alloc _ (.cells #[.string key] 9) _ (Array.getElem?_eq_some_iff.1 BK3.out).1).trans BK3.out) (by omega) (Keeps.grown hgrow) (fun j e => HS.out.row.lt e.symm); have ck4 := cell_of_heap bk4 0; have cb4 := cell_of_heap S4.out.box 0; simp at ck4 cb4; have BK4 := hid bk4; clear bk4 hown' hgrow hat))
              | (go_at_call 42; go_must (refine (undoBy_any cb fs C _ _ _ S4.out.chg (by have := S4.out.len; omega)).mono ?_; rintro e w5 ⟨rfl, C', hc5, k5, hC5⟩; have bk5 := new_box (wr := wr) BK4.out (by omega) k5 (fun j hj => HS.out.chg.lt j hj); have bp5 := (k5.block w.heap.size (Array.getElem?_eq_some_iff.1 S4.out.box).1 (fun hj => by rcases HS.out.cfr _ hj with h1 | h1; (have := HC.out.lt _ h1; omega); omega)).trans S4.out.box; have ck5 := cell_of_heap bk5 0; have cb5 := cell_of_heap bp5 0; simp at ck5 cb5; have HU := hid (And.intro hc5 (And.intro k5 hC5)); have ST5 := hid (S4.out.st.kept k5 (fun j hj hC => S4.out.apart j hC hj)); clear bk5 bp5 hc5 k5 hC5))
              | (go_at_call 63; go_must (refine (HTS.out w5 ST5.out).mono ?_; rintro e w6 ⟨rfl, ht6⟩; have HT6 := hid ht6; clear ht6)))
            obtain ⟨hist', S6⟩ := S4.out.thrown HT.out.rises hlt2 rfl (fun j hj => HC.out.lt j hj) HFL.out HU.out.1 (by simp) HU.out.2.1 HU.out.2.2 (by
              rw [HNE.out, HKEY.out]
              exact HT6.out)
            exact ⟨⟨k + 1, _, by omega, by go_num, rfl, by rw [HZ.out, thrownN_succ hlt2, HNE.out]; omega, _, _, _, S6⟩, by simp only [intOf]; omega⟩
          · have hnl2 : nd = x.vers.length := by omega
            have HSTAY : Hid (staysB R L R.keys[k] = false) := by unfold Hid; rw [hst]; simpa using hnl
            have HTS : Hid (∀ W, StoreAt W { R with hist := hist } → Calls Try.prog 63 #[.pointer (some ⟨R.sb, 7, none⟩), .string key, .int .i64 (nd : Nat)] W fun e w' => e = .returned (.tuple #[]) ∧ ThrowPost { R with hist := hist } key nd W w') := fun W hW => by
              have := throw_all { R with hist := hist } key x W hW HX.out
              rwa [← hnl2] at this
            clear hst hnd hnl hnle
            generalize hln : x.vers.length = len at *
            subst hnl2
            have hlp2 : (0 : Int) < (nd : Int) := by omega
            go_wp2_with (first
              | (go_at_call 61; go_must (refine (HND.out _ HK2.out).mono ?_; rintro e w3 ⟨rfl, k3⟩; have K3 := hid (HK2.out.tr k3 (fun _ h => h)); have bk3 := new_box (wr := wr) BK.out (by omega) k3 (fun _ h => h.elim); have ba3 := new_box (wr := wr) BA.out (by omega) k3 (fun _ h => h.elim); have ck3 := cell_of_heap bk3 0; have ca3 := cell_of_heap ba3 0; simp at ck3 ca3; have BK3 := hid bk3; have S3 := hid ((HS.out.kept K3.out).skip hlt2 HSTAY.out); have cb3 := cell_of_heap S3.out.box 0; simp at cb3; clear bk3 ba3 k3))
              | (go_at_call 42; go_must (refine (undoBy_any cb fs C _ _ _ S3.out.chg (by have := S3.out.len; omega)).mono ?_; rintro e w5 ⟨rfl, C', hc5, k5, hC5⟩; have bk5 := new_box (wr := wr) BK3.out (by omega) k5 (fun j hj => HS.out.chg.lt j hj); have bp5 := (k5.block w.heap.size (Array.getElem?_eq_some_iff.1 S3.out.box).1 (fun hj => by rcases HS.out.cfr _ hj with h1 | h1; (have := HC.out.lt _ h1; omega); omega)).trans S3.out.box; have ck5 := cell_of_heap bk5 0; have cb5 := cell_of_heap bp5 0; simp at ck5 cb5; have HU := hid (And.intro hc5 (And.intro k5 hC5)); have ST5 := hid (S3.out.st.kept k5 (fun j hj hC => S3.out.apart j hC hj)); clear bk5 bp5 hc5 k5 hC5))
              | (go_at_call 63; go_must (refine (HTS.out w5 ST5.out).mono ?_; rintro e w6 ⟨rfl, ht6⟩; have HT6 := hid ht6; clear ht6)))
            obtain ⟨hist', S6⟩ := S3.out.thrown HT.out.rises hlt2 rfl (fun j hj => HC.out.lt j hj) HFL.out HU.out.1 (by simp) HU.out.2.1 HU.out.2.2 (by
              rw [HNE.out, HKEY.out]
              exact HT6.out)
            exact ⟨⟨k + 1, _, by omega, by go_num, rfl, by rw [HZ.out, thrownN_succ hlt2, HNE.out]; omega, _, _, _, S6⟩, by simp only [intOf]; omega⟩
    · have e : k = R.keys.length := by omega
      have HSn : Hid (SweepS w R L cb fs0.length C0 w.heap.size R.keys.length R.keys.length hist fs C (.slice al (leftL R L k).length cl) wr) := by
        have := HS.out
        rw [e] at this ⊢
        exact this
      have c5r : wr.cell? ⟨R.sb, 7, none⟩ = some (.slice av R.keys.length cv) := by
        have := HSn.out.st.cell 7
        rw [this]
        simp [topCells, HKV.out]
      have cb0 := cell_of_heap HSn.out.box 0
      simp at cb0
      have hwsz := HSn.out.size
      have hsbC : R.sb ∉ C := fun hC => HSn.out.apart _ hC (by simp [Rep.fp])
      have hpC : w.heap.size ∉ C := fun hC => by
        rcases HSn.out.cfr _ hC with h1 | h1
        · have := HC.out.lt _ h1; omega
        · omega
      have HKE := hid e
      clear HS e HSM hlm
      have HUN := hid (undoBy_any cb fs C (.func 64) #[.pointer (some ⟨wr.heap.size, 0, none⟩), .pointer (some ⟨w.heap.size, 0, none⟩)] (wr.alloc (.cells #[.slice av R.keys.length cv] 32)) (HSn.out.chg.kept (Keeps.alloc (fun _ => False) _ _) (fun _ _ h => h)) (by have := HSn.out.len; omega))
      have hsbw : R.sb < wr.heap.size := HSn.out.st.lt
      go_wp2_with (go_at_call 42; go_must (refine (HUN.out).mono ?_; rintro e w5 ⟨rfl, C', hc5, k5, hC5⟩; have k5' : Keeps (· ∈ C) wr w5 := ((Keeps.refl _ wr).al _).tr k5 (fun _ h => h); have st5 := HSn.out.st.kept k5' (fun j hj hC => HSn.out.apart j hC hj); have cb5 := k5'.cell (p := ⟨w.heap.size, 0, none⟩) cb0 hpC; have c55 := k5'.cell (p := ⟨R.sb, 7, none⟩) c5r hsbC; have f55 : w5.frozen? ⟨R.sb, 7, none⟩ = false := st5.frozen 7; have ST5 := hid st5; have K5 := hid k5'; clear st5 k5 k5' hc5 hC5))
      go_ret
      obtain ⟨n1, n2⟩ := ST5.out.newKeys (vl := .slice al (leftL R L k).length cl) (ks := leftL R L R.keys.length) (HSn.out.row.kept K5.out (fun g hg hC => (HSn.out.own g hg).2.1 hC)) (fun g hg => (HSn.out.own g hg).2.2)
      refine ⟨ret_int (by rw [HZ.out, HKE.out]), hist, _, n1, fun k => ?_, HSn.out.some_, HSn.out.filled, ?_, fun k hk => ?_⟩
      · have := HSn.out.vers k
        rwa [List.take_length] at this
      · refine (HSn.out.keep.trans K5.out (fun k hk hC => ?_)).trans (Keeps.setCell _ _ _) (fun k hk e => .inl ?_)
        · rcases HSn.out.cfr k hC with h1 | h1
          · exact .inr h1
          · omega
        · have e' : k = R.sb := e
          rw [e']
          simp [Rep.fp]
      · rcases n2 k hk with h1 | h1
        · exact HSn.out.ffr k h1
        · exact .inr (HSn.out.own k h1).1

end Go.Proofs.Ytfcocbcihhdbkaa
