import Derived.Test.YtpagenipflmlfaaGreatDoorM32

/- Merge of a full stream and two deltas: pure. -/

namespace Go.Proofs.YtpagenipflmlfaaGreatDoor

open Go.RowKit Go.Shelf

theorem rr_of {l : List RecB} (h : Rises (l.map RecB.key)) : RRises l := List.pairwise_map.1 h

theorem rr_to {l : List RecB} (h : RRises l) : Rises (l.map RecB.key) := List.pairwise_map.2 h

theorem fold_or : ∀ {rs : List RecB} (L : List RecB) (_ : RRises rs) (k : ByteArray), hasL (rs.foldl placedL L) k = (hasL rs k).or (hasL L k)
  | [], L, _, k => rfl
  | r :: rs, L, h, k => by
    obtain ⟨h1, h2⟩ := List.pairwise_cons.1 h
    rw [List.foldl_cons, fold_or (placedL L r) h2 k, placed_has]
    by_cases e : r.key = k
    · have hn : hasL rs k = none := by
        cases hx : hasL rs k with
        | none => rfl
        | some x =>
          obtain ⟨m1, m2⟩ := has_some hx
          have := h1 x m1
          rw [m2, ← e, ltK_irrefl] at this
          cases this
      rw [hn, if_pos e]
      simp [hasL, e]
    · rw [if_neg e]
      have : hasL (r :: rs) k = hasL rs k := by simp [hasL, e]
      rw [this]

theorem fold_rises : ∀ (rs : List RecB) {L : List RecB}, RRises L → RRises (rs.foldl placedL L)
  | [], _, h => h
  | r :: rs, _, h => fold_rises rs (placed_rises h r)

theorem rec_ext {L M : List RecB} (hl : RRises L) (hm : RRises M) (h : ∀ k, hasL L k = hasL M k) : L = M := by
  have hk : L.map RecB.key = M.map RecB.key := rises_ext (rr_to hl) (rr_to hm) (fun k => by rw [← has_isSome, ← has_isSome, h])
  have hlen : L.length = M.length := by have := congrArg List.length hk; simpa using this
  refine List.ext_getElem hlen (fun i h1 h2 => ?_)
  have e1 : L[i].key = M[i].key := by
    have : (L.map RecB.key)[i]'(by simpa using h1) = (M.map RecB.key)[i]'(by simpa using h2) := by simp only [hk]
    simpa using this
  have e2 := has_of_mem hl (List.getElem_mem h1)
  have e3 := has_of_mem hm (List.getElem_mem h2)
  rw [h, e1, e3] at e2
  exact (Option.some.inj e2).symm

theorem merge_point {vers : ByteArray → List Ver} {k : ByteArray} (hr : Rising (vers k)) {a b : Int} (hab : a ≤ b) {o : Option RecB} (ho : seenC true o = tellOf (Cop.new true 0 a) vers k) : seenC true ((tellOf (Cop.new false a b) vers k).or o) = tellOf (Cop.new true 0 b) vers k := by
  have e1 : (Cop.new false a b).to = b := rfl
  have e2 : (Cop.new true 0 b).to = b := rfl
  have e3 : (Cop.new true 0 a).to = a := rfl
  unfold tellOf at ho ⊢
  rw [e3] at ho
  rw [e1, e2]
  cases hv : atVer (vers k) b with
  | none =>
    have := at_same hr hab (fun v h => by rw [hv] at h; cases h)
    rw [this, hv] at ho
    simp only [tellV, Option.none_or] at ho ⊢
    exact ho
  | some v =>
    by_cases hs : a < v.state
    · have ht : tellsB (Cop.new false a b) v = true := by simp [tellsB, Cop.new, hs]
      simp only [tellV, ht, if_true, Option.some_or]
      cases hg : v.gone <;> simp [seenC, tellsB, Cop.new, hg]
    · have ht : tellsB (Cop.new false a b) v = false := by simp [tellsB, Cop.new, hs]
      have := at_same hr hab (fun u h => by rw [hv] at h; cases h; omega)
      rw [this, hv] at ho
      simp only [tellV, ht, Bool.false_eq_true, if_false, Option.none_or] at ho ⊢
      rw [ho]
      rfl

theorem seen_full {vers : ByteArray → List Ver} {k : ByteArray} (s : Int) : seenC true (tellOf (Cop.new true 0 s) vers k) = tellOf (Cop.new true 0 s) vers k := by
  unfold tellOf
  cases hv : atVer (vers k) (Cop.new true 0 s).to with
  | none => rfl
  | some v => cases hg : v.gone <;> simp [seenC, tellV, tellsB, Cop.new, hg]

/-- three states of a store, with what streams tell of them -/
structure Tri (s0 s1 s2 : Nat) (L0 L1 L2 : List RecB) (A : Gst) : Prop where
  ok : Gok A
  keys : ∀ k ∈ A.keys, k ∈ K12
  gone : ∀ k, ∀ v ∈ A.vers k, v.gone = true → v.value = ByteArray.empty
  h01 : s0 < s1
  h12 : s1 < s2
  h2 : s2 ≤ 1000000000
  t0 : tellL A.keys A.vers (Cop.new true 0 s0) = L0
  t1 : tellL A.keys A.vers (Cop.new false s0 s1) = L1
  t2 : tellL A.keys A.vers (Cop.new false s1 s2) = L2

/-- both deltas in one -/
def bothL (L1 L2 : List RecB) : List RecB := L2.foldl placedL (L1.foldl placedL [])

/-- the last state -/
def Gst.lastL (A : Gst) (s : Nat) : List RecB := (A.pairs (s : Int)).map recP

section

variable {s0 s1 s2 : Nat} {L0 L1 L2 : List RecB} {A : Gst}

theorem Tri.rr (h : Tri s0 s1 s2 L0 L1 L2 A) : RRises L0 ∧ RRises L1 ∧ RRises L2 := by
  refine ⟨?_, ?_, ?_⟩
  · rw [← h.t0]; exact rr_of (tell_rises h.ok.rises _ _)
  · rw [← h.t1]; exact rr_of (tell_rises h.ok.rises _ _)
  · rw [← h.t2]; exact rr_of (tell_rises h.ok.rises _ _)

theorem Tri.has (h : Tri s0 s1 s2 L0 L1 L2 A) (k : ByteArray) : hasL L0 k = tellOf (Cop.new true 0 s0) A.vers k ∧ hasL L1 k = tellOf (Cop.new false s0 s1) A.vers k ∧ hasL L2 k = tellOf (Cop.new false s1 s2) A.vers k := by
  refine ⟨?_, ?_, ?_⟩
  · rw [← h.t0]; exact recOf_tell h.ok _ _ _ k
  · rw [← h.t1]; exact recOf_tell h.ok _ _ _ k
  · rw [← h.t2]; exact recOf_tell h.ok _ _ _ k

theorem both_has (h : Tri s0 s1 s2 L0 L1 L2 A) (k : ByteArray) : hasL (bothL L1 L2) k = (hasL L2 k).or (hasL L1 k) := by
  unfold bothL
  rw [fold_or _ h.rr.2.2, fold_or _ h.rr.2.1]
  have : hasL ([] : List RecB) k = none := rfl
  rw [this, Option.or_none]

theorem both_rr (L1 L2 : List RecB) : RRises (bothL L1 L2) := fold_rises _ (fold_rises _ List.Pairwise.nil)

theorem both_mem (h : Tri s0 s1 s2 L0 L1 L2 A) : ∀ r ∈ bothL L1 L2, r ∈ L1 ∨ r ∈ L2 := fun r hr => by
  have h1 := has_of_mem (both_rr L1 L2) hr
  rw [both_has h] at h1
  cases hx : hasL L2 r.key with
  | some x =>
    rw [hx, Option.some_or] at h1
    cases h1
    exact .inr (has_some hx).1
  | none =>
    rw [hx, Option.none_or] at h1
    exact .inl (has_some h1).1

theorem Tri.recs (h : Tri s0 s1 s2 L0 L1 L2 A) : ∀ r, (r ∈ L1 ∨ r ∈ L2) → (keyB r.key = true ∧ valB r.value = true ∧ (r.gone = true → false = false ∧ r.value.toList.isEmpty = true)) ∧ r.key ∈ K12 := fun r hr => by
  rcases hr with hr | hr
  · rw [← h.t1] at hr
    obtain ⟨v, h1, -⟩ := tell_mem hr
    exact ⟨tell_recs h.ok h.gone r hr, h.keys _ h1⟩
  · rw [← h.t2] at hr
    obtain ⟨v, h1, -⟩ := tell_mem hr
    exact ⟨tell_recs h.ok h.gone r hr, h.keys _ h1⟩

theorem both_len (h : Tri s0 s1 s2 L0 L1 L2 A) : (bothL L1 L2).length ≤ 12 := by
  have h1 := length_le_of_subset (l := (bothL L1 L2).map RecB.key) (K := K12) (rises_nodup (rr_to (both_rr L1 L2))) (fun k hk => by
    obtain ⟨r, hr, rfl⟩ := List.mem_map.1 hk
    exact (h.recs r (both_mem h r hr)).2)
  have h3 : K12.length = 12 := by simp [K12]
  rw [List.length_map] at h1
  omega

theorem fit_delta {a b : Nat} (hab : a < b) (hb : b ≤ 1000000000) : fitB false a b = true := by
  unfold fitB stateB
  simp
  omega

theorem fit_full {b : Nat} (hb : b ≤ 1000000000) : fitB true 0 b = true := by
  unfold fitB stateB
  simp
  omega

theorem both_judge (h : Tri s0 s1 s2 L0 L1 L2 A) : judgeB false s0 s2 (bothL L1 L2) = true :=
  judge_told (fit_delta (by have := h.h01; have := h.h12; omega) h.h2) (by have := both_len h; omega) (rr_to (both_rr L1 L2)) (fun r hr => (h.recs r (both_mem h r hr)).1)

theorem Tri.judges (h : Tri s0 s1 s2 L0 L1 L2 A) : judgeB true 0 s0 L0 = true ∧ judgeB false s0 s1 L1 = true ∧ judgeB false s1 s2 L2 = true ∧ judgeB true 0 s2 (A.lastL s2) = true := by
  have a1 := h.h01
  have a2 := h.h12
  have a3 := h.h2
  refine ⟨?_, ?_, ?_, ?_⟩
  · rw [← h.t0]; exact tell_judge h.ok h.keys h.gone (fit_full (by omega))
  · rw [← h.t1]; exact tell_judge h.ok h.keys h.gone (fit_delta a1 (by omega))
  · rw [← h.t2]; exact tell_judge h.ok h.keys h.gone (fit_delta a2 a3)
  · unfold Gst.lastL
    rw [← tell_full]
    exact tell_judge h.ok h.keys h.gone (fit_full a3)

theorem last_rr (h : Tri s0 s1 s2 L0 L1 L2 A) : RRises (A.lastL s2) := by
  unfold Gst.lastL
  rw [← tell_full]
  exact rr_of (tell_rises h.ok.rises _ _)

/-- what is merged is what stands at the last state -/
theorem merged_last (h : Tri s0 s1 s2 L0 L1 L2 A) {L : List RecB} (hr : RRises L) (hh : ∀ k, hasL L k = (hasL L2 k).or ((hasL L1 k).or (hasL L0 k))) : outC true L = A.lastL s2 := by
  refine rec_ext (outC_rises hr) (last_rr h) (fun k => ?_)
  obtain ⟨e0, e1, e2⟩ := h.has k
  have a1 := h.h01
  have a2 := h.h12
  have hl : hasL (A.lastL s2) k = tellOf (Cop.new true 0 s2) A.vers k := by
    unfold Gst.lastL
    rw [← tell_full]
    exact recOf_tell h.ok _ _ _ k
  rw [outC_has hr, hh, hl, e0, e1, e2]
  exact merge_point (h.ok.rising k) (by omega) (merge_point (h.ok.rising k) (by omega) (seen_full s0))

def strOf (full : Bool) (a b : Nat) (l : List RecB) : Str := ⟨full, a, b, l.map RecB.rec_⟩

def txtOf (full : Bool) (a b : Nat) (l : List RecB) : ByteArray := ofL (streamL (strOf full a b l))

theorem okS_txt {full : Bool} {a b : Nat} {l : List RecB} (h : judgeB full a b l = true) : okS (txtOf full a b l) = some (strOf full a b l) := by
  refine okS_some ?_
  unfold txtOf
  rw [ofL_list]
  exact read_self h

theorem enc_txt {full : Bool} {a b : Nat} {l : List RecB} (h : judgeB full a b l = true) : encR full a b l = (txtOf full a b l, 0) := if_pos h

theorem merge_three (h : Tri s0 s1 s2 L0 L1 L2 A) : mgR [txtOf true 0 s0 L0, txtOf false s0 s1 L1, txtOf false s1 s2 L2] = (txtOf true 0 s2 (A.lastL s2), 0) := by
  obtain ⟨j0, j1, j2, j3⟩ := h.judges
  unfold mgR
  rw [if_pos (by intro t ht; simp at ht; rcases ht with rfl | rfl | rfl; (rw [okS_txt j0]; rfl); (rw [okS_txt j1]; rfl); (rw [okS_txt j2]; rfl))]
  simp only [List.filterMap_cons, okS_txt j0, okS_txt j1, okS_txt j2, List.filterMap_nil]
  obtain ⟨M, hc⟩ : ∃ M, chn [strOf true 0 s0 L0, strOf false s0 s1 L1, strOf false s1 s2 L2] = some ⟨true, 0, s2, M, L2.foldl placedL (L1.foldl placedL (L0.foldl placedL [])), true⟩ := by
    unfold chn
    simp only [List.foldl_cons, List.foldl_nil, chStep1]
    rw [Chn.add_yes (c := Chn.first (strOf true 0 s0 L0)) (s := strOf false s0 s1 L1) rfl ⟨rfl, rfl⟩, Chn.add_yes rfl ⟨rfl, rfl⟩]
    simp only [Chn.first, strOf, recs_recB]
    exact ⟨_, rfl⟩
  unfold mgS
  rw [hc]
  simp only [if_true]
  rw [merged_last h (fold_rises _ (fold_rises _ (fold_rises _ List.Pairwise.nil))) (fun k => by
    rw [fold_or _ h.rr.2.2, fold_or _ h.rr.2.1, fold_or _ h.rr.1]
    have : hasL ([] : List RecB) k = none := rfl
    rw [this, Option.or_none]), enc_txt j3]

theorem merge_deltas (h : Tri s0 s1 s2 L0 L1 L2 A) : mgR [txtOf false s0 s1 L1, txtOf false s1 s2 L2] = (txtOf false s0 s2 (bothL L1 L2), 0) := by
  obtain ⟨j0, j1, j2, j3⟩ := h.judges
  unfold mgR
  rw [if_pos (by intro t ht; simp at ht; rcases ht with rfl | rfl; (rw [okS_txt j1]; rfl); (rw [okS_txt j2]; rfl))]
  simp only [List.filterMap_cons, okS_txt j1, okS_txt j2, List.filterMap_nil]
  obtain ⟨M, hc⟩ : ∃ M, chn [strOf false s0 s1 L1, strOf false s1 s2 L2] = some ⟨false, s0, s2, M, L2.foldl placedL (L1.foldl placedL []), true⟩ := by
    unfold chn
    simp only [List.foldl_cons, List.foldl_nil, chStep1]
    rw [Chn.add_yes (c := Chn.first (strOf false s0 s1 L1)) (s := strOf false s1 s2 L2) rfl ⟨rfl, rfl⟩]
    simp only [Chn.first, strOf, recs_recB]
    exact ⟨_, rfl⟩
  unfold mgS
  rw [hc]
  simp only [if_true]
  exact enc_txt (both_judge h)

theorem merge_again (h : Tri s0 s1 s2 L0 L1 L2 A) : mgR [txtOf true 0 s0 L0, txtOf false s0 s2 (bothL L1 L2)] = (txtOf true 0 s2 (A.lastL s2), 0) := by
  obtain ⟨j0, j1, j2, j3⟩ := h.judges
  have j4 := both_judge h
  unfold mgR
  rw [if_pos (by intro t ht; simp at ht; rcases ht with rfl | rfl; (rw [okS_txt j0]; rfl); (rw [okS_txt j4]; rfl))]
  simp only [List.filterMap_cons, okS_txt j0, okS_txt j4, List.filterMap_nil]
  obtain ⟨M, hc⟩ : ∃ M, chn [strOf true 0 s0 L0, strOf false s0 s2 (bothL L1 L2)] = some ⟨true, 0, s2, M, (bothL L1 L2).foldl placedL (L0.foldl placedL []), true⟩ := by
    unfold chn
    simp only [List.foldl_cons, List.foldl_nil, chStep1]
    rw [Chn.add_yes (c := Chn.first (strOf true 0 s0 L0)) (s := strOf false s0 s2 (bothL L1 L2)) rfl ⟨rfl, rfl⟩]
    simp only [Chn.first, strOf, recs_recB]
    exact ⟨_, rfl⟩
  unfold mgS
  rw [hc]
  simp only [if_true]
  rw [merged_last h (fold_rises _ (fold_rises _ List.Pairwise.nil)) (fun k => by
    rw [fold_or _ (both_rr L1 L2), fold_or _ h.rr.1, both_has h]
    have : hasL ([] : List RecB) k = none := rfl
    rw [this, Option.or_none, Option.or_assoc]), enc_txt j3]

end

end Go.Proofs.YtpagenipflmlfaaGreatDoor

/- Carried: the states that are pinned, and what stood at each. -/

namespace Go.Proofs.YtpagenipflmlfaaGreatDoor

open Go.RowKit Go.Shelf

/-- states and lists, as they lie; G: the blocks that hold them -/
structure CMem (w : World) (pb : Nat) (pv : Array Value) (ss : List Nat) (pss : List (List (ByteArray × ByteArray))) (vs : List Value) (st wn : Value) (G : List Nat) (wr : World) : Prop where
  states : Row wr 3 1 st ss.length (ss.map fun s : Nat => Value.int .i64 (s : Int))
  wants : Row wr 36 1 wn vs.length vs
  many : vs.length = pss.length
  lists : ∀ i (h : i < vs.length) (h' : i < pss.length), PairsAt wr vs[i] pss[i]
  parts : wr.heap[pb]? = some (.cells pv 22 (0, 0))
  gst : ∀ g, st.ownBlock = some g → g ∈ G
  gwn : ∀ g, wn.ownBlock = some g → g ∈ G
  gvs : ∀ v ∈ vs, ∀ g, v.ownBlock = some g → g ∈ G
  gpb : pb ∈ G
  new : ∀ g ∈ G, w.heap.size ≤ g ∧ g < wr.heap.size
  apartS : ∀ g, st.ownBlock = some g → wn.ownBlock ≠ some g ∧ (∀ v ∈ vs, v.ownBlock ≠ some g) ∧ pb ≠ g
  apartW : ∀ g, wn.ownBlock = some g → (∀ v ∈ vs, v.ownBlock ≠ some g) ∧ pb ≠ g

theorem CMem.kept {w : World} {pb : Nat} {pv : Array Value} {ss : List Nat} {pss : List (List (ByteArray × ByteArray))} {vs : List Value} {st wn : Value} {G : List Nat} {wr w' : World} {S : Nat → Prop} (h : CMem w pb pv ss pss vs st wn G wr) (hk : Keeps S wr w') (hS : ∀ g ∈ G, ¬ S g) : CMem w pb pv ss pss vs st wn G w' :=
  ⟨h.states.kept hk (fun g hg => hS g (h.gst g hg)), h.wants.kept hk (fun g hg => hS g (h.gwn g hg)), h.many, fun i hi hi' => (h.lists i hi hi').kept hk (fun g hg => hS g (h.gvs _ (List.getElem_mem hi) g hg)),
    (hk.block pb (Array.getElem?_eq_some_iff.1 h.parts).1 (hS pb h.gpb)).trans h.parts, h.gst, h.gwn, h.gvs, h.gpb, fun g hg => ⟨(h.new g hg).1, Nat.lt_of_lt_of_le (h.new g hg).2 hk.size⟩, h.apartS, h.apartW⟩

/-- a block more -/
theorem CMem.more {w : World} {pb : Nat} {pv : Array Value} {ss : List Nat} {pss : List (List (ByteArray × ByteArray))} {vs : List Value} {st wn : Value} {G : List Nat} {wr : World} (h : CMem w pb pv ss pss vs st wn G wr) {g0 : Nat} (h0 : w.heap.size ≤ g0 ∧ g0 < wr.heap.size) : CMem w pb pv ss pss vs st wn (g0 :: G) wr :=
  ⟨h.states, h.wants, h.many, h.lists, h.parts, fun g hg => List.mem_cons_of_mem _ (h.gst g hg), fun g hg => List.mem_cons_of_mem _ (h.gwn g hg), fun v hv g hg => List.mem_cons_of_mem _ (h.gvs v hv g hg), List.mem_cons_of_mem _ h.gpb,
    fun g hg => by rcases List.mem_cons.1 hg with rfl | hg; exact h0; exact h.new g hg, h.apartS, h.apartW⟩

/-- a state more -/
theorem CMem.pushS {w : World} {pb : Nat} {pv : Array Value} {ss : List Nat} {pss : List (List (ByteArray × ByteArray))} {vs : List Value} {st wn : Value} {G : List Nat} {wr W1 w' : World} {st' : Value} {s : Nat} (h : CMem w pb pv ss pss vs st wn G wr) (hW : Keeps (fun _ => False) wr W1) (hr : Row w' 3 1 st' (ss.length + 1) ((ss.map fun s : Nat => Value.int .i64 (s : Int)) ++ [.int .i64 (s : Int)])) (hg : W1.grownBy w' st.ownBlock) (ho : st'.ownBlock = st.ownBlock ∨ st'.ownBlock = some W1.heap.size) :
    (∃ G', CMem w pb pv (ss ++ [s]) pss vs st' wn G' w' ∧ (∀ g ∈ G', g ∈ G ∨ W1.heap.size ≤ g)) ∧ Keeps (fun k => some k = st.ownBlock) wr w' := by
  have hk := Keeps.grown hg
  have hk2 : Keeps (fun k => some k = st.ownBlock) wr w' := (hW.mono (fun _ _ h => h.elim)).tr hk (fun _ h => h)
  have hz := hW.size
  have hz2 := hk.size
  have hne : ∀ v : Value, (∀ g, v.ownBlock = some g → st.ownBlock ≠ some g) → ∀ g, v.ownBlock = some g → ¬ (some g = st.ownBlock) := fun v hv g hg e => hv g hg e.symm
  have hwn : ∀ g, wn.ownBlock = some g → st.ownBlock ≠ some g := fun g hg e => (h.apartS g e).1 hg
  have hvs : ∀ v ∈ vs, ∀ g, v.ownBlock = some g → st.ownBlock ≠ some g := fun v hv g hg e => (h.apartS g e).2.1 v hv hg
  have hpb : st.ownBlock ≠ some pb := fun e => (h.apartS pb e).2.2 rfl
  have hnew : ∀ g, g ∈ G → W1.heap.size ≠ g := fun g hg e => by have := (h.new g hg).2; omega
  have hlt : ∀ g, st'.ownBlock = some g → g < w'.heap.size := fun g hg => hr.lt hg
  have hw1 : w.heap.size ≤ wr.heap.size := by have := h.new pb h.gpb; omega
  refine ⟨⟨st'.ownBlock.toList ++ G, ⟨by simpa using hr, h.wants.kept hk2 (hne wn hwn), h.many, fun i hi hi' => (h.lists i hi hi').kept hk2 (hne _ (hvs _ (List.getElem_mem hi))), (hk2.block pb (Array.getElem?_eq_some_iff.1 h.parts).1 (fun e => hpb e.symm)).trans h.parts,
    fun g hg => by simp [hg], fun g hg => by have := h.gwn g hg; simp [this], fun v hv g hg => by have := h.gvs v hv g hg; simp [this], by have := h.gpb; simp [this], fun g hg => ?_, fun g hg => ?_, h.apartW⟩, fun g hg => ?_⟩, hk2⟩
  · rcases List.mem_append.1 hg with hg | hg
    · have hg' : st'.ownBlock = some g := by simpa using hg
      refine ⟨?_, hlt g hg'⟩
      rcases ho with e | e
      · exact (h.new g (h.gst g (by rw [← e]; exact hg'))).1
      · rw [hg'] at e; simp at e; omega
    · have := h.new g hg
      omega
  · rcases ho with e | e
    · rw [e] at hg
      exact h.apartS g hg
    · rw [hg] at e
      have e' : g = W1.heap.size := by simpa using e
      refine ⟨fun h2 => hnew g (h.gwn g h2) e'.symm, fun v hv h2 => hnew g (h.gvs v hv g h2) e'.symm, fun h2 => hnew pb h.gpb (h2.trans e').symm⟩
  · rcases List.mem_append.1 hg with hg | hg
    · have hg' : st'.ownBlock = some g := by simpa using hg
      rcases ho with e | e
      · exact .inl (h.gst g (by rw [← e]; exact hg'))
      · rw [hg'] at e; simp at e; exact .inr (by omega)
    · exact .inl hg

/-- a list more -/
theorem CMem.pushW {w : World} {pb : Nat} {pv : Array Value} {ss : List Nat} {pss : List (List (ByteArray × ByteArray))} {vs : List Value} {st wn : Value} {G : List Nat} {wr W1 w' : World} {wn' v : Value} {ps : List (ByteArray × ByteArray)} (h : CMem w pb pv ss pss vs st wn G wr) (hW : Keeps (fun _ => False) wr W1) (hr : Row w' 36 1 wn' (vs.length + 1) (vs ++ [v])) (hg : W1.grownBy w' wn.ownBlock) (ho : wn'.ownBlock = wn.ownBlock ∨ wn'.ownBlock = some W1.heap.size)
    (hv : PairsAt wr v ps) (hvG : ∀ g, v.ownBlock = some g → g ∈ G) (hvn : ∀ g, v.ownBlock = some g → st.ownBlock ≠ some g ∧ wn.ownBlock ≠ some g) :
    (∃ G', CMem w pb pv ss (pss ++ [ps]) (vs ++ [v]) st wn' G' w' ∧ (∀ g ∈ G', g ∈ G ∨ W1.heap.size ≤ g)) ∧ Keeps (fun k => some k = wn.ownBlock) wr w' := by
  have hk := Keeps.grown hg
  have hk2 : Keeps (fun k => some k = wn.ownBlock) wr w' := (hW.mono (fun _ _ h => h.elim)).tr hk (fun _ h => h)
  have hz := hW.size
  have hz2 := hk.size
  have hne : ∀ v : Value, (∀ g, v.ownBlock = some g → wn.ownBlock ≠ some g) → ∀ g, v.ownBlock = some g → ¬ (some g = wn.ownBlock) := fun v hv g hg e => hv g hg e.symm
  have hst : ∀ g, st.ownBlock = some g → wn.ownBlock ≠ some g := fun g hg e => (h.apartS g hg).1 e
  have hvs : ∀ u ∈ vs, ∀ g, u.ownBlock = some g → wn.ownBlock ≠ some g := fun u hu g hg e => (h.apartW g e).1 u hu hg
  have hpb : wn.ownBlock ≠ some pb := fun e => (h.apartW pb e).2 rfl
  have hnew : ∀ g, g ∈ G → W1.heap.size ≠ g := fun g hg e => by have := (h.new g hg).2; omega
  have hlt : ∀ g, wn'.ownBlock = some g → g < w'.heap.size := fun g hg => hr.lt hg
  have hw1 : w.heap.size ≤ wr.heap.size := by have := h.new pb h.gpb; omega
  have hm := h.many
  refine ⟨⟨wn'.ownBlock.toList ++ G, ⟨h.states.kept hk2 (hne st hst), by simpa using hr, by simp [hm], fun i hi hi' => ?_, (hk2.block pb (Array.getElem?_eq_some_iff.1 h.parts).1 (fun e => hpb e.symm)).trans h.parts,
    fun g hg => by have := h.gst g hg; simp [this], fun g hg => by simp [hg], fun u hu g hg => ?_, by have := h.gpb; simp [this], fun g hg => ?_, fun g hg => ⟨fun e => ?_, fun u hu => ?_, (h.apartS g hg).2.2⟩, fun g hg => ?_⟩, fun g hg => ?_⟩, hk2⟩
  · by_cases hlt2 : i < vs.length
    · rw [List.getElem_append_left hlt2, List.getElem_append_left (by omega)]
      exact (h.lists i hlt2 (by omega)).kept hk2 (hne _ (hvs _ (List.getElem_mem hlt2)))
    · simp at hi hi'
      have e : i = vs.length := by omega
      subst e
      rw [List.getElem_append_right (by omega), List.getElem_append_right (by omega)]
      simp
      exact hv.kept hk2 (fun g hg e => (hvn g hg).2 e.symm)
  · rcases List.mem_append.1 hu with hu | hu
    · have := h.gvs u hu g hg; simp [this]
    · simp at hu; subst hu; have := hvG g hg; simp [this]
  · rcases List.mem_append.1 hg with hg | hg
    · have hg' : wn'.ownBlock = some g := by simpa using hg
      refine ⟨?_, hlt g hg'⟩
      rcases ho with e | e
      · exact (h.new g (h.gwn g (by rw [← e]; exact hg'))).1
      · rw [hg'] at e; simp at e; omega
    · have := h.new g hg
      omega
  · rcases ho with e2 | e2
    · exact (h.apartS g hg).1 (by rw [← e2]; exact e)
    · rw [e] at e2
      have e3 : g = W1.heap.size := by simpa using e2
      exact hnew g (h.gst g hg) e3.symm
  · rcases List.mem_append.1 hu with hu | hu
    · exact (h.apartS g hg).2.1 u hu
    · simp at hu; subst hu; exact fun e => (hvn g e).1 hg
  · rcases ho with e | e
    · rw [e] at hg
      refine ⟨fun u hu => ?_, (h.apartW g hg).2⟩
      rcases List.mem_append.1 hu with hu | hu
      · exact (h.apartW g hg).1 u hu
      · simp at hu; subst hu; exact fun e2 => (hvn g e2).2 hg
    · rw [hg] at e
      have e' : g = W1.heap.size := by simpa using e
      refine ⟨fun u hu e2 => ?_, fun h2 => hnew pb h.gpb (h2.trans e').symm⟩
      rcases List.mem_append.1 hu with hu | hu
      · exact hnew g (h.gvs u hu g e2) e'.symm
      · simp at hu; subst hu; exact hnew g (hvG g e2) e'.symm
  · rcases List.mem_append.1 hg with hg | hg
    · have hg' : wn'.ownBlock = some g := by simpa using hg
      rcases ho with e | e
      · exact .inl (h.gwn g (by rw [← e]; exact hg'))
      · rw [hg'] at e; simp at e; exact .inr (by omega)
    · exact .inl hg

/-- a store of which states are pinned -/
structure CarA (ss : List Nat) (pss : List (List (ByteArray × ByteArray))) (A : Gst) : Prop where
  works : A.works = []
  cops : A.copyings = []
  floor : A.floor = 0
  keys : ∀ k ∈ A.keys, k ∈ K12
  gone : ∀ k, ∀ v ∈ A.vers k, v.gone = true → v.value = ByteArray.empty
  pins : A.pins = ss.map fun s : Nat => ((s : Int), (1 : Int))
  rises : ss.Pairwise (· < ·)
  upto : ∀ s ∈ ss, (s : Int) ≤ A.now
  pairs : ss.map (fun s : Nat => A.pairs (s : Int)) = pss

theorem CarA.wrote {ss : List Nat} {pss : List (List (ByteArray × ByteArray))} {A : Gst} (h : CarA ss pss A) (g : Gok A) {key val : ByteArray} {gone : Bool} (hk : key ∈ K12) (hv : gone = true → val = ByteArray.empty) : CarA ss pss (A.wrote1 key val gone) := by
  refine ⟨h.works, h.cops, h.floor, fun k hk' => ?_, gone_wrote h.gone hv, h.pins, h.rises, fun s hs => ?_, ?_⟩
  · rcases (insK_mem _ _ _).1 hk' with rfl | h1
    · exact hk
    · exact h.keys k h1
  · have := h.upto s hs
    show (s : Int) ≤ A.now + 1
    omega
  · rw [← h.pairs]
    exact List.map_congr_left (fun s hs => pairs_wrote g (h.upto s hs) _ _ _)

/-- a state more, pinned and asked -/
theorem CarA.pinned {ss : List Nat} {pss : List (List (ByteArray × ByteArray))} {A : Gst} (h : CarA ss pss A) {s : Nat} (hs : A.now = (s : Int)) (hlt : ∀ x ∈ ss, x < s) : CarA (ss ++ [s]) (pss ++ [A.pairs A.now]) { A.asked1 with pins := put A.pins (s : Int) ((look A.pins (s : Int)).getD 0 + 1) } := by
  have hl : look A.pins (s : Int) = none := look_none.2 (fun p hp e => by
    rw [h.pins] at hp
    obtain ⟨x, hx, rfl⟩ := List.mem_map.1 hp
    have := hlt x hx
    simp at e
    omega)
  refine ⟨h.works, h.cops, h.floor, h.keys, h.gone, ?_, ?_, fun x hx => ?_, ?_⟩
  · show put A.pins (s : Int) _ = _
    rw [hl, put_none hl, h.pins]
    simp
  · rw [List.pairwise_append]
    exact ⟨h.rises, List.pairwise_singleton _ _, fun a ha b hb => by simp at hb; subst hb; exact hlt a ha⟩
  · show (x : Int) ≤ A.now
    rcases List.mem_append.1 hx with hx | hx
    · exact h.upto x hx
    · simp at hx; subst hx; omega
  · rw [List.map_append, hs]
    show ss.map (fun x : Nat => A.pairs (x : Int)) ++ [A.pairs (s : Int)] = _
    rw [h.pairs]

end Go.Proofs.YtpagenipflmlfaaGreatDoor

/- Carried: what a round's calls answer. -/

namespace Go.Proofs.YtpagenipflmlfaaGreatDoor

open Go.RowKit Go.Shelf

theorem look_c {O : Nat → Prop} {N : Nat} {w : World} {b : Nat} {A : Gst} (h : HAt O N w b A) (hN : N ≤ 100000000000) :
    Calls Tryz.prog 6 #[.pointer (some ⟨b, 0, none⟩)] w fun e w' => e = .returned (.agg #[.int .i64 A.now, .int .i64 A.floor, .int .i64 A.works.length, .int .i64 A.pinSum, .int .i64 A.total, .int .i64 A.copyings.length]) ∧ HAt O N w' b A ∧ Keeps (fun _ => False) w w' := by
  obtain ⟨F, h1, h2⟩ := h
  refine (look_g h1 hN).mono ?_
  rintro e w' ⟨q1, q2, q3⟩
  exact ⟨q1, ⟨F, q2, h2⟩, q3⟩

theorem pin_c {O : Nat → Prop} {N : Nat} {w : World} {b : Nat} {A : Gst} (s : Int) (h : HAt O N w b A) (hO : ∀ k, O k → k < w.heap.size) (hN : N ≤ 100000000000) (hh : A.hasB s = true) :
    Calls Tryz.prog 7 #[.pointer (some ⟨b, 0, none⟩), .int .i64 s] w fun e w' => e = .returned (.int .i64 0) ∧ HAt O (N + 1) w' b { A with pins := put A.pins s ((look A.pins s).getD 0 + 1) } ∧ Keeps (fun k => ¬ O k) w w' := by
  have := h.call hO (fun _ hF => pin_g s hF hN)
  unfold Gst.pinR Gst.pinS at this
  rw [if_pos hh, if_pos hh] at this
  exact this

/-- behind a round's calls -/
structure RoundG (O : Nat → Prop) (N : Nat) (b : Nat) (ss : List Nat) (pss : List (List (ByteArray × ByteArray))) (s : Nat) (ps : List (ByteArray × ByteArray)) (ov : Option Addr) (cv : Nat) (lo : Nat) (W w' : World) : Prop where
  row : PairsAt w' (.slice ov ps.length cv) ps
  own : ∀ g, (Value.slice ov ps.length cv).ownBlock = some g → W.heap.size ≤ g
  st : ∃ A, HAt (fun j => O j ∨ (lo ≤ j ∧ j < W.heap.size) ∨ (Value.slice ov ps.length cv).ownBlock = some j) (N + 40) w' b A ∧ CarA (ss ++ [s]) (pss ++ [ps]) A ∧ A.now = (s : Int)
  keep : Keeps (fun j => ¬ (O j ∨ (lo ≤ j ∧ j < W.heap.size))) W w'

theorem car_round {O : Nat → Prop} {N : Nat} {wr : World} {b : Nat} {A : Gst} {ss : List Nat} {pss : List (List (ByteArray × ByteArray))} {k : Nat} (h : HAt O N wr b A) (hO : ∀ j, O j → j < wr.heap.size) (hc : CarA ss pss A) (hk : k < 3) (hN : N ≤ 10000000000) (hnow : A.now < 900000000) :
    Calls Tryz.prog 5 #[.pointer (some ⟨b, 0, none⟩), .agg #[.int .i64 0, .int .i64 (k : Int), .string ⟨#[101, 110, 100]⟩]] wr fun e w1 => e = .returned (.bool true) ∧ Keeps (fun j => ¬ O j) wr w1 ∧
      Calls Tryz.prog 6 #[.pointer (some ⟨b, 0, none⟩)] w1 fun e w2 => ∃ s : Nat, (s : Int) = A.now + 1 ∧ (∃ x1 x2 x3 x4 x5 : Int, e = .returned (.agg #[.int .i64 (s : Int), .int .i64 x1, .int .i64 x2, .int .i64 x3, .int .i64 x4, .int .i64 x5])) ∧ Keeps (fun _ => False) w1 w2 ∧
        ∀ W, Keeps (fun _ => False) w2 W → Calls Tryz.prog 7 #[.pointer (some ⟨b, 0, none⟩), .int .i64 (s : Int)] W fun e w3 => e = .returned (.int .i64 0) ∧ Keeps (fun j => ¬ (O j ∨ (w2.heap.size ≤ j ∧ j < W.heap.size))) W w3 ∧
          Calls Tryz.prog 8 #[.pointer (some ⟨b, 0, none⟩)] w3 fun e w4 => ∃ ps ov cv, e = .returned (.tuple #[.slice ov ps.length cv, .bool true]) ∧ RoundG O N b ss pss s ps ov cv w2.heap.size W w4 := by
  have g := h.ok
  refine (writeG_any 0 (k : Int) ⟨#[101, 110, 100]⟩ h hO (by rw [hc.works]; simp) (by omega) (by omega) (by omega) (by omega) (by unfold maxLen; decide)).mono ?_
  rintro e w1 ⟨rfl, s1, k1⟩
  refine ⟨rfl, k1, ?_⟩
  obtain ⟨hp0, hp1⟩ := pick_lt (k : Int) (n := 12) (by decide)
  have hc1 := hc.wrote (val := if pickZ 0 4 = 3 then ByteArray.empty else ByteArray.extract ⟨#[101, 110, 100]⟩ 0 40) (gone := decide (pickZ 0 4 = 3)) g (key_mem hp0 hp1) (fun hg => if_pos (of_decide_eq_true hg))
  generalize hB : A.wrote1 (keyZ (pickZ (k : Int) 12)) (if pickZ 0 4 = 3 then ByteArray.empty else ByteArray.extract ⟨#[101, 110, 100]⟩ 0 40) (decide (pickZ 0 4 = 3)) = B at *
  have hBn : B.now = A.now + 1 := by rw [← hB]; rfl
  clear hB
  have hn0 := g.now.1
  obtain ⟨s, hs⟩ : ∃ s : Nat, B.now = (s : Int) := ⟨B.now.toNat, by omega⟩
  refine (look_c s1 (by omega)).mono ?_
  rintro e w2 ⟨rfl, s2, k2⟩
  refine ⟨s, by omega, ⟨B.floor, _, _, _, _, by rw [hs]⟩, k2, fun W hW => ?_⟩
  have hz1 := k1.size
  have hz2 := k2.size
  have hzW := hW.size
  have sW := (s2.more (Nat.le_refl _) (O' := fun j => O j ∨ (w2.heap.size ≤ j ∧ j < W.heap.size)) (fun j hj => hj.imp id (fun h => h.1))).kept hW (fun _ _ h => h.elim)
  have hOW : ∀ j, (O j ∨ (w2.heap.size ≤ j ∧ j < W.heap.size)) → j < W.heap.size := fun j hj => by
    rcases hj with hj | hj
    · have := hO j hj; omega
    · exact hj.2
  refine (pin_c (s : Int) sW hOW (by omega) (by unfold Gst.hasB; rw [hc1.floor, hs]; simp)).mono ?_
  rintro e w3 ⟨rfl, s3, k3⟩
  refine ⟨rfl, k3, ?_⟩
  have hz3 := k3.size
  refine (all_any s3 (fun j hj => Nat.lt_of_lt_of_le (hOW j hj) hz3) (by show B.works.length < 8; rw [hc1.works]; simp) (by omega)).mono ?_
  rintro e w4 ⟨v, rfl, row, own, s4, k4⟩
  obtain ⟨ov, cv, rfl, -, -⟩ := row.form
  refine ⟨B.pairs B.now, ov, cv, rfl, row, fun g' hg' => Nat.le_trans hz3 (own g' hg'), ⟨_, s4.more (by omega) (fun j hj => .inl ?_), hc1.pinned hs ?_, hs⟩, k3.tr k4 (fun j h => h)⟩
  · rcases hj with hj | hj | hj
    · exact .inl (.inl hj)
    · exact .inl (.inr hj)
    · exact .inr hj
  · intro x hx
    have := hc.upto x hx
    omega

/-- between rounds -/
structure CarInv (w : World) (b pb : Nat) (pv : Array Value) (k : Nat) (st wn : Value) (wr : World) (ss : List Nat) (pss : List (List (ByteArray × ByteArray))) (vs : List Value) (G : List Nat) (i : Nat) (A : Gst) : Prop where
  len : ss.length = k
  mem : CMem w pb pv ss pss vs st wn G wr
  st : HAt (fun j => j < w.heap.size ∨ j ∈ G) (4000000 * k + 31 * i) wr b A
  car : CarA ss pss A
  now : A.now ≤ 100001 * k + i
  keep : Keeps (fun _ => False) w wr

theorem CarInv.room {w : World} {b pb : Nat} {pv : Array Value} {k : Nat} {st wn : Value} {wr : World} {ss : List Nat} {pss : List (List (ByteArray × ByteArray))} {vs : List Value} {G : List Nat} {i : Nat} {A : Gst} (h : CarInv w b pb pv k st wn wr ss pss vs G i A) : ∀ j, (j < w.heap.size ∨ j ∈ G) → j < wr.heap.size := fun j hj => by
  rcases hj with hj | hj
  · exact Nat.lt_of_lt_of_le hj h.keep.size
  · exact (h.mem.new j hj).2

theorem CarInv.wrote {w : World} {b pb : Nat} {pv : Array Value} {k : Nat} {st wn : Value} {wr w' : World} {ss : List Nat} {pss : List (List (ByteArray × ByteArray))} {vs : List Value} {G : List Nat} {i : Nat} {A : Gst} {what key : Int} {val : ByteArray} {e : Ending} (h : CarInv w b pb pv k st wn wr ss pss vs G i A) (hw : WriteG (fun j => j < w.heap.size ∨ j ∈ G) (4000000 * k + 31 * i) b A what key val wr e w') : e = .returned (.bool true) ∧ ∃ A', CarInv w b pb pv k st wn w' ss pss vs G (i + 1) A' := by
  obtain ⟨rfl, h1, h2⟩ := hw
  obtain ⟨hp0, hp1⟩ := pick_lt key (n := 12) (by decide)
  refine ⟨rfl, _, h.len, h.mem.kept h2 (fun g hg hn => hn (.inr hg)), h1.more (by omega) (fun j hj => .inl hj), h.car.wrote h.st.ok (key_mem hp0 hp1) (fun hg => if_pos (of_decide_eq_true hg)), ?_, h.keep.trans h2 (fun j hj hn => hn (.inl hj))⟩
  have := h.now
  show A.now + 1 ≤ _
  omega

/-- a round's end: the state and the list are put behind -/
theorem CarInv.next {w : World} {b pb : Nat} {pv : Array Value} {k : Nat} {st wn st' wn' : Value} {wr w1 w2 W w4 W5 w5 W6 w6 : World} {ss : List Nat} {pss : List (List (ByteArray × ByteArray))} {vs : List Value} {G : List Nat} {i : Nat} {A : Gst} {s : Nat} {ps : List (ByteArray × ByteArray)} {ov : Option Addr} {cv : Nat}
    (h : CarInv w b pb pv k st wn wr ss pss vs G i A) (hi : i ≤ 100000) (hs : (s : Int) = A.now + 1) (k1 : Keeps (fun j => ¬ (j < w.heap.size ∨ j ∈ G)) wr w1) (k2 : Keeps (fun _ => False) w1 w2) (k3 : Keeps (fun _ => False) w2 W) (hr : RoundG (fun j => j < w.heap.size ∨ j ∈ G) (4000000 * k + 31 * i) b ss pss s ps ov cv w2.heap.size W w4)
    (k5 : Keeps (fun _ => False) w4 W5) (r5 : Row w5 3 1 st' (ss.length + 1) ((ss.map fun s : Nat => Value.int .i64 (s : Int)) ++ [.int .i64 (s : Int)])) (g5 : W5.grownBy w5 st.ownBlock) (o5 : st'.ownBlock = st.ownBlock ∨ st'.ownBlock = some W5.heap.size)
    (k6 : Keeps (fun _ => False) w5 W6) (r6 : Row w6 36 1 wn' (vs.length + 1) (vs ++ [.slice ov ps.length cv])) (g6 : W6.grownBy w6 wn.ownBlock) (o6 : wn'.ownBlock = wn.ownBlock ∨ wn'.ownBlock = some W6.heap.size) :
    ∃ ss' pss' vs' G' A', CarInv w b pb pv (k + 1) st' wn' w6 ss' pss' vs' G' 0 A' := by
  have z1 := k1.size
  have z2 := k2.size
  have z3 := k3.size
  have z4 := hr.keep.size
  have z5 := k5.size
  have hnew := h.mem.new
  obtain ⟨A4, s4, c4, n4⟩ := hr.st
  have m4 : CMem w pb pv ss pss vs st wn G w4 := ((h.mem.kept k1 (fun g hg hn => hn (.inr hg))).kept (k2.tr k3 (fun _ h => h)) (fun _ _ h => h)).kept hr.keep (fun g hg hn => hn (.inl (.inr hg)))
  obtain ⟨vg, hvg⟩ : ∃ vg : Value, vg = .slice ov ps.length cv := ⟨_, rfl⟩
  have hrow : PairsAt w4 vg ps := by rw [hvg]; exact hr.row
  have hown : ∀ g, vg.ownBlock = some g → W.heap.size ≤ g := by rw [hvg]; exact hr.own
  rw [← hvg] at s4 r6
  -- the list's block joins
  obtain ⟨G1, m4', hG1⟩ : ∃ G1, CMem w pb pv ss pss vs st wn G1 w4 ∧ (∀ g, vg.ownBlock = some g → g ∈ G1) ∧ (∀ g ∈ G, g ∈ G1) ∧ ∀ g ∈ G1, g ∈ G ∨ vg.ownBlock = some g := by
    cases hvb : vg.ownBlock with
    | none => exact ⟨G, m4, fun g hg => (by cases hg), fun g hg => hg, fun g hg => .inl hg⟩
    | some g0 =>
      have h1 := hown g0 hvb
      have h2 : g0 < w4.heap.size := hrow.lt hvb
      have h0 := (hnew pb h.mem.gpb).1
      have h0' := (hnew pb h.mem.gpb).2
      refine ⟨g0 :: G, m4.more ⟨by omega, h2⟩, fun g hg => by simp at hg; simp [hg], fun g hg => List.mem_cons_of_mem _ hg, fun g hg => ?_⟩
      rcases List.mem_cons.1 hg with rfl | hg
      · exact .inr rfl
      · exact .inl hg
  obtain ⟨hG1, hG2, hG3⟩ := hG1
  have hlen := h.len
  obtain ⟨⟨G5, m5, hG5⟩, kk5⟩ := m4'.pushS k5 r5 g5 o5
  have hold : ∀ g, g ∈ G → g < W.heap.size := fun g hg => by have := (hnew g hg).2; omega
  have hvg5 : PairsAt w5 vg ps := hrow.kept kk5 (fun g hg e => by
    have h1 := hown g hg
    have h2 := hold g (h.mem.gst g e.symm)
    omega)
  have hz6 := k6.size
  have z5' := kk5.size
  have hvn : ∀ g, vg.ownBlock = some g → st'.ownBlock ≠ some g ∧ wn.ownBlock ≠ some g := fun g hg => by
    have h1 := hown g hg
    have h2 : g < w4.heap.size := hrow.lt hg
    refine ⟨fun e => ?_, fun e => ?_⟩
    · rcases o5 with e5 | e5
      · rw [e5] at e
        have := hold g (h.mem.gst g e)
        omega
      · rw [e5] at e
        simp at e
        omega
    · have := hold g (h.mem.gwn g e)
      omega
  have hvG5 : ∀ g, vg.ownBlock = some g → g ∈ G5 ∨ True := fun _ _ => .inr trivial
  -- the list's block is still among them
  obtain ⟨G6, m5', hG6a, hG6b⟩ : ∃ G6, CMem w pb pv (ss ++ [s]) pss vs st' wn G6 w5 ∧ (∀ g, vg.ownBlock = some g → g ∈ G6) ∧ ∀ g ∈ G6, g ∈ G5 ∨ vg.ownBlock = some g := by
    cases hvb : vg.ownBlock with
    | none => exact ⟨G5, m5, fun g hg => (by cases hg), fun g hg => .inl hg⟩
    | some g0 =>
      have h1 := hown g0 hvb
      have h2 : g0 < w4.heap.size := hrow.lt hvb
      have h0 := (hnew pb h.mem.gpb).1
      have h0' := (hnew pb h.mem.gpb).2
      refine ⟨g0 :: G5, m5.more ⟨by omega, by omega⟩, fun g hg => by simp at hg; simp [hg], fun g hg => ?_⟩
      rcases List.mem_cons.1 hg with rfl | hg
      · exact .inr rfl
      · exact .inl hg
  obtain ⟨⟨G7, m6, hG7⟩, kk6⟩ := m5'.pushW k6 r6 g6 o6 hvg5 hG6a hvn
  have sF := s4.more (Nat.le_refl _) (O' := fun j => (j < w.heap.size ∨ j ∈ G) ∨ vg.ownBlock = some j ∨ w4.heap.size ≤ j) (fun j hj => by
    rcases hj with hj | hj | hj
    · exact .inl (.inl hj)
    · exact .inl (.inr (.inr hj))
    · exact .inr hj)
  have sF5 := sF.kept kk5 (fun j _ e => .inl (.inr (h.mem.gst j e.symm)))
  have sF6 := sF5.kept kk6 (fun j _ e => .inl (.inr (h.mem.gwn j e.symm)))
  refine ⟨ss ++ [s], pss ++ [ps], vs ++ [vg], G7, A4, by simp [hlen], m6, sF6.more (by omega) (fun j hj => .inl ?_), c4, ?_, ?_⟩
  · rcases hj with hj | hj
    · exact .inl (.inl hj)
    · rcases hG7 j hj with h1 | h1
      · rcases hG6b j h1 with h2 | h2
        · rcases hG5 j h2 with h3 | h3
          · rcases hG3 j h3 with h4 | h4
            · exact .inl (.inr h4)
            · exact .inr (.inl h4)
          · exact .inr (.inr (by omega))
        · exact .inr (.inl h2)
      · exact .inr (.inr (by omega))
  · have := h.now
    rw [n4]
    omega
  · have q1 : Keeps (fun _ => False) w W := ((h.keep.trans k1 (fun j hj hn => hn (.inl hj))).tr k2 (fun _ h => h)).tr k3 (fun _ h => h)
    have q2 : Keeps (fun _ => False) w w4 := q1.trans hr.keep (fun j hj hn => hn (.inl (.inl hj)))
    have q3 : Keeps (fun _ => False) w w5 := q2.trans kk5 (fun j hj e => by have := (hnew j (h.mem.gst j e.symm)).1; omega)
    exact q3.trans kk6 (fun j hj e => by have := (hnew j (h.mem.gwn j e.symm)).1; omega)

end Go.Proofs.YtpagenipflmlfaaGreatDoor

/- The deferred steps of Stop and Apply (out of GF: a seat may lack both). -/

namespace Go.Proofs.YtpagenipflmlfaaGreatDoor

open Go.RowKit Go.Shelf

set_option maxRecDepth 100000 in
set_option maxHeartbeats 400000 in
theorem apply1_ok (cb eb : Nat) (w : World) (he : w.cell? ⟨eb, 0, none⟩ = some (.int .i64 0)) :
    CallsD Tryz.prog 37 #[.pointer (some ⟨cb, 0, none⟩), .pointer (some ⟨eb, 0, none⟩)] .returning w fun e u' w' => e = .returned (.tuple #[]) ∧ u' = .returning ∧ w' = w := by
  refine callsD_of_wpS Tryz.func37 rfl fun c₀ cs hu => ?_
  apply wpS_region
  simp [wpOpsS, go_sem, recoverD, hu, Tryz.ntmps37]
  refine (settle_ok cb eb w he).mono ?_
  rintro e w1 ⟨rfl, rfl⟩
  cases c₀
  simp_all [bodyPostS, results, Tryz.results37]

end Go.Proofs.YtpagenipflmlfaaGreatDoor

/- Apply of a delta that follows. -/

namespace Go.Proofs.YtpagenipflmlfaaGreatDoor

open Go.RowKit Go.Shelf

attribute [local go_sem] Oper.semAt_some

/-- what Apply leaves -/
def ApPost (R : Rep) (l : List RecB) (too : Int) (w w' : World) : Prop :=
  ∃ Rn, StoreAt w' { Rn with now := too } ∧ Grew R (l.map RecB.key) (verR l too) Rn ∧ Keeps (· ∈ R.fp) w w' ∧ (∀ k ∈ Rn.fp, k ∈ R.fp ∨ w.heap.size ≤ k) ∧ Rn.keys.length ≤ R.keys.length + l.length

set_option maxRecDepth 100000 in
set_option maxHeartbeats 4000000 in
theorem apply_ok (R : Rep) (text : ByteArray) (a b : Nat) (recs : List Rec) (w : World) (h : StoreAt w R) (g : Good R) (td : Tied R) (hts : text.size ≤ 10000000000) (hg : Glob w) (hread : readO text.data.toList = .ok ⟨false, a, b, recs⟩) (ha : R.now = (a : Nat)) (hw : R.works = []) (hkl : R.keys.length < 900000000000) :
    Calls Tryz.prog 11 #[.pointer (some ⟨R.sb, 0, none⟩), .string text] w fun e w' => e = .returned (.int .i64 0) ∧ ApPost R (recs.map recB) (b : Nat) w w' := by
  have hmf : ∀ (fn : Fn) (first cap : Array Value) (w : World), (Instr.makeFunc fn first cap).run Tryz.prog w = .ok (.func fn first cap) w := fun _ _ _ _ => rfl
  have k00 : Keeps (fun _ => False) w ((w.alloc (.cells #[.int .i64 0] 34)).alloc (.cells #[.slice none 0 0] 69)) := ((Keeps.refl (fun _ => False) w).al _).al _
  have HD := hid (decode_any text _ hts (hg.kept k00))
  have hj := read_judge hread
  rw [hread] at HD
  simp only at hj
  obtain ⟨-, hto, hl, -⟩ := judge_facts hj
  have hrs := judge_rises hj
  have hln : (recs.map recB).length = recs.length := List.length_map ..
  generalize hrb : recs.map recB = l at *
  have HRB := hid hrb
  have hflt := fp_lt h
  have hsl := h.lt
  have HST := hid h
  have HGD := hid g
  have HTD := hid td
  have HWK := hid hw
  have HKL := hid hkl
  have HNW := hid ha
  have HLL := hid hl
  have HRS := hid hrs
  clear hg hread hj hrb h g td hw hkl ha hl hrs hts
  go_enter_defers Tryz.func11, Tryz.ntmps11
  go_wp2_with fail
  refine HD.out.mono ?_
  rintro e w1 ⟨⟨oa, cap, rfl, row, own⟩, k1⟩
  simp only at row own ⊢
  rw [HRB.out, ← hln] at row
  rw [← hln] at own ⊢
  have kw1 : Keeps (fun _ => False) w w1 := k00.tr k1 (fun _ h => h)
  have hE0 : w1.heap[w.heap.size]? = some (.cells #[.int .i64 0] 34 (0, 0)) := (k1.block w.heap.size (by simp; omega) (fun h => h)).trans ((Below.heap_alloc _ _ _ (by simp)).trans (heap_new w _))
  have hC0 : Chg w1 (w.heap.size + 1) [] [w.heap.size + 1] := (chg_new w (.cells #[.int .i64 0] 34)).kept k1 (fun _ _ h => h)
  have hz1 : w.heap.size + 2 ≤ w1.heap.size := by have := k1.size; simp at this; omega
  have hrow : RecIn w1 oa l := RecIn.ofRow row
  have hob : ∀ ad, oa = some ad → w.heap.size + 2 ≤ ad.block := fun ad e => by
    rcases row.2 with ⟨h1, -⟩ | ⟨g', cap', cur, h1, h2, -⟩
    · injection h1 with h1; rw [e] at h1; cases h1
    · injection h1 with h1
      rw [e] at h1
      cases h1
      have := own g' (by rw [e]; rfl)
      simp at this
      omega
  obtain ⟨w2, hw2⟩ : ∃ w2, w2 = w1.alloc (.cells #[.bool false, .int .i64 (a : Nat), .int .i64 (b : Nat), .slice oa l.length cap] 84) := ⟨_, rfl⟩
  have k12 : Keeps (fun _ => False) w1 w2 := by rw [hw2]; exact Keeps.alloc _ _ _
  have kw2 : Keeps (fun _ => False) w w2 := kw1.tr k12 (fun _ h => h)
  have hS2 := HST.out.kept kw2 (fun _ _ h => h)
  have hX2 : w2.heap[w1.heap.size]? = some (.cells #[.bool false, .int .i64 (a : Nat), .int .i64 (b : Nat), .slice oa l.length cap] 84 (0, 0)) := by rw [hw2]; exact heap_new w1 _
  have x0 := cell_of_heap hX2 0
  have x1 := cell_of_heap hX2 1
  have x2 := cell_of_heap hX2 2
  have x3 := cell_of_heap hX2 3
  simp at x0 x1 x2 x3
  have c0 : w2.cell? ⟨R.sb, 0, none⟩ = some (.int .i64 (a : Nat)) := (hS2.cell 0).trans (by rw [← HNW.out]; rfl)
  have c3 : w2.cell? ⟨R.sb, 3, none⟩ = some (.map R.wm) := hS2.cell 3
  have HLEN : Hid (∀ W, Keeps (fun _ => False) w2 W → (Builtin.len_ #[58] 3 #[.map R.wm]).run Tryz.prog W = .ok (.int .i64 0) W) := fun W hW => by
    have := (hS2.kept hW (fun _ _ h => h)).works.worksMap.length (P := Tryz.prog) Tryz.underlying58 3
    rw [HWK.out] at this
    exact this
  have HF := hid (fun W (hW : Keeps (fun _ => False) w2 W) => follow_any R (w.heap.size + 1) [w.heap.size + 1] false (a : Nat) b oa cap l W (hS2.kept hW (fun _ _ h => h)) HGD.out HTD.out ((hC0.kept k12 (fun _ _ h => h)).kept hW (fun _ _ h => h)) (fun k hk hf => by have := hflt k hf; simp at hk; omega) HKL.out HLL.out ((hrow.kept k12).kept hW) (fun ad e => by have := hob ad e; refine ⟨fun hf => ?_, fun hf => ?_⟩; (have := hflt _ hf; omega); (simp at hf; omega)) HRS.out)
  have hE2 : w2.heap[w.heap.size]? = some (.cells #[.int .i64 0] 34 (0, 0)) := (k12.block w.heap.size (by omega) (fun h => h)).trans hE0
  have HE2 := hid hE2
  have HK2 := hid kw2
  have HW2 := hid hw2
  clear row own k1 kw1 hE0 hC0 hrow hob k12 kw2 hS2 hX2 hE2 HD hw2 hln k00
  go_wp2_with fail
  rw [← HW2.out]
  go_region
  have hlen := HLEN.out w2.drew (Keeps.drew _ _)
  have HFF := hid (HF.out w2.drew (Keeps.drew _ _))
  have HK3 : Hid (Keeps (fun _ => False) w w2.drew) := HK2.out.dr
  have HE3 : Hid (w2.drew.heap[w.heap.size]? = some (.cells #[.int .i64 0] 34 (0, 0))) := HE2.out
  have y0 := (Keeps.drew (fun _ => False) w2).cell x0 (fun h => h)
  have y1 := (Keeps.drew (fun _ => False) w2).cell x1 (fun h => h)
  have y2 := (Keeps.drew (fun _ => False) w2).cell x2 (fun h => h)
  have y3 := (Keeps.drew (fun _ => False) w2).cell x3 (fun h => h)
  have d3 := (Keeps.drew (fun _ => False) w2).cell c3 (fun h => h)
  clear x0 x1 x2 x3 c0 c3 HLEN HF HE2 HK2 HW2
  generalize w2.drew = w3 at *
  go_wp2_with fail
  refine HFF.out.mono ?_
  rintro e w4 ⟨rfl, Rn, hS4, hG4, hk4, hfp4, hkl4⟩
  have hE4 : w4.heap[w.heap.size]? = some (.cells #[.int .i64 0] 34 (0, 0)) := (hk4.block w.heap.size (Array.getElem?_eq_some_iff.1 HE3.out).1 (by rintro (hc | hc); (have := hflt _ hc; omega); (simp at hc))).trans HE3.out
  have z0 : w4.cell? ⟨w.heap.size, 0, none⟩ = some (.int .i64 0) := cell_of_heap hE4 0
  have z1 : w4.frozen? ⟨w.heap.size, 0, none⟩ = false := frozen_of_heap hE4 0
  have HE4 := hid hE4
  have HP : Hid (∃ Rn, StoreAt w4 { Rn with now := ((b : Nat) : Int) } ∧ Grew R (l.map RecB.key) (verR l (b : Nat)) Rn ∧ Keeps (· ∈ R.fp) w w4 ∧ (∀ k ∈ Rn.fp, k ∈ R.fp ∨ w.heap.size + 1 ≤ k) ∧ Rn.keys.length ≤ R.keys.length + l.length) := by
    have hz := HK3.out.size
    have h2 := (Array.getElem?_eq_some_iff.1 HE3.out).1
    refine ⟨Rn, hS4, hG4, (HK3.out.mono (fun _ _ h => h.elim)).trans hk4 (fun k hk h => ?_), fun k hk => ?_, hkl4⟩
    · rcases h with h | h
      · exact h
      · simp at h; omega
    · rcases hfp4 k hk with h | h
      · exact .inl h
      · exact .inr (by omega)
  clear hS4 hG4 hk4 hfp4 hkl4 hE4 HFF y0 y1 y2 y3 d3 hlen
  go_wp2
  refine leaves_cons (f := 37) (args := #[.pointer (some ⟨w.heap.size + 1, 0, none⟩), .pointer (some ⟨w.heap.size, 0, none⟩)]) (by simp) (by simp [go_sem]) ?_
  have hE5 := heap_setCell_same (i := 0) HE4.out (.int .i64 0)
  refine (apply1_ok (w.heap.size + 1) w.heap.size _ ?_).mono ?_
  · exact cell_of_heap hE5 0
  rintro e u' w'' ⟨rfl, rfl, rfl⟩
  have hpost : ApPost R l (b : Nat) w (w4.setCell ⟨w.heap.size, 0, none⟩ (.int .i64 0)) := by
    obtain ⟨Rm, q1, q2, q3, q4, q5⟩ := HP.out
    refine ⟨Rm, q1.kept (Keeps.setCell _ _ _) (fun k hk e => ?_), q2, q3.st (.inl (Nat.le_refl _)) _, fun k hk => (q4 k hk).imp id (fun h => by omega), q5⟩
    have e' : k = w.heap.size := e
    have hk' : k ∈ Rm.fp := hk
    rcases q4 k hk' with h | h
    · have := hflt k h; omega
    · omega
  have hb := cell_of_heap hE5 0
  generalize w4.setCell ⟨w.heap.size, 0, none⟩ (.int .i64 0) = W3 at hpost hb
  simp at hb
  simp [Leaves, settle, results, Tryz.results11, go_sem, hb]
  exact hpost

end Go.Proofs.YtpagenipflmlfaaGreatDoor
