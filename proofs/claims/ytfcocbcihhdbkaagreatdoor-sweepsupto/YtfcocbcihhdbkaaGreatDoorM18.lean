import Derived.Test.YtfcocbcihhdbkaaGreatDoorM17
import Derived.RangeFuncWrites
import Derived.Sort.AtCallIn
import Derived.Stop.RegionWithIn

/- A range over an iterator that keeps its place in cells of its own, whose rounds may say that it is enough; merged so. -/
namespace Go.Proofs.YtfcocbcihhdbkaaGreatDoor
open Go.RowKit Go.Shelf

attribute [local go_sem] Oper.semAt_some

section
variable {F : Fence} {n : Nat} {P : Program}

/-- The iterator calls yield for each of xs with S xs, in order, if every round goes on; it may write as C allows, a round keeps Kp. -/
def SeqEnd {α : Type} (F : Fence) (n : Nat) (P : Program) (g : Nat) (lb : Array Value) (encs : α → Array Value) (C Kp : World → World → Prop) (S Sp : List α → Prop) (N : Nat) (w : World) : Prop :=
  ∀ (l : Nat) (J Jx : List α → World → Prop) (W : World), Keeps (fun _ => False) w W → (∀ pre A B, C A B → J pre A → J pre B) →
    (∀ pre x W1, J pre W1 → pre.length < N → YieldAt F (n - 1) P l (encs x) W1 fun e W' => (e = .returned (.bool true) ∧ J (pre ++ [x]) W' ∧ Kp W1 W') ∨ (e = .returned (.bool false) ∧ Jx (pre ++ [x]) W')) →
    J [] W → CallsIn F n P g (#[.func (.yield l) #[] #[]] ++ lb) W fun e W' => (∃ v, e = .returned v) ∧ ((∃ xs, S xs ∧ J xs W') ∨ ∃ xs, Sp xs ∧ Jx xs W')

/-- what a round leaves: it goes on, or it is enough -/
def goesOnX {α : Type} (B : Nat) (Kp : World → World → Prop) (I : List α → World → Prop) (Ix : Code → List α → World → Prop) (xs : List α) (W : World) : Exit → Act → World → Prop
  | .normal, _, W' => KeepsFrom B W W' ∧ Kp W W' ∧ I xs W'
  | .exit id, _, W' => KeepsFrom B W W' ∧ Ix (.exit id) xs W'
  | _, _, _ => False

theorem wpIn_range_end {α : Type} {g : Operand} {ps : Array Tmp} {assign body : Code} {Q : Exit → Act → World → Prop} {a : Act} {w : World} (hro : F.round = none) (h1 : 1 ≤ n) {gf : Nat} {lb : Array Value}
    (hg : a.eval g = .func (.func gf) #[] lb) (hFg : F.fn gf) (eg : ∀ args w, (callFunc gf args).run P w = .ok (.enter gf args) w) {encs : α → Array Value} {C Kp : World → World → Prop} {S Sp : List α → Prop} {N : Nat}
    (hseq : SeqEnd F (n - 1) P gf lb encs C Kp S Sp N w) (hCs : ∀ A B k, C A B → w.heap.size ≤ k → (∃ o, A.heap[k]? = some o ∧ o.isCells = false) → B.heap[k]? = A.heap[k]?)
    (hKt : ∀ {A B D : World}, Kp A B → Kp B D → Kp A D) (hKb : ∀ (W : World) (l : Nat) (o' : Obj), w.heap.size ≤ l → Kp W (W.putObj l o')) (hps : ∀ x, (encs x).size = ps.size)
    (I : List α → World → Prop) (Ix : Code → List α → World → Prop) (hI : OwnFrom w.heap.size I) (hIx : ∀ c, OwnFrom w.heap.size (Ix c)) (hIC : ∀ pre A B, C A B → I pre A → I pre B) (h0 : I [] w) (a₁ : α → Act)
    (hassign : ∀ (l : Nat) (x : α) (W : World) (K : Act → World → Prop), K (a₁ x) W → assign.wpIn (F.inRound l) (n - 1 - 1) P (Exit.then K (fun _ _ _ => False)) { tmps := (ps.zip (encs x)).foldl (fun t (p, v) => t.setIfInBounds p v) a.tmps, defers := [] } W)
    (hbody : ∀ (l : Nat) (pre : List α) (x : α) (W : World), I pre W → pre.length < N → body.wpIn (F.inRound l) (n - 1 - 1) P (goesOnX w.heap.size Kp I Ix (pre ++ [x]) W) (a₁ x) W)
    (hdone : ∀ (D : Nat) (xs : List α) (W : World), w.heap.size ≤ D → S xs → I xs W → W.heap[D]? = some (.deferred (some [])) → Q .normal { a with defers := { target := .collected D, args := #[] } :: a.defers } W)
    (hstop : ∀ (D : Nat) (c : Code) (xs : List α) (W : World), w.heap.size ≤ D → Sp xs → Ix c xs W → W.heap[D]? = some (.deferred (some [])) → c.wpIn F n P Q { a with defers := { target := .collected D, args := #[] } :: a.defers } W) :
    (Code.rangeFunc g ps assign body).wpIn F n P Q a w := by
  refine wpIn_rangeFunc ?_
  intro fn hfn
  rw [hro]
  obtain ⟨rec, hrec⟩ : ∃ rec : LoopState → Option Code → Loop, rec = fun st pe => { state := st, pending := pe, fn, tmps := a.tmps, params := ps, assign, body, defers := w.heap.size } := ⟨_, rfl⟩
  obtain ⟨W1, hW1⟩ : ∃ W1, (w.alloc (.deferred (some []))).alloc (.loop (rec .ready none)) = W1 := ⟨_, rfl⟩
  have hkw : Keeps (fun _ => False) w W1 := by rw [← hW1]; exact ((Keeps.refl _ w).al _).al _
  have hL1 : W1.heap[w.heap.size + 1]? = some (.loop (rec .ready none)) := by
    rw [← hW1]; have := heap_new (w.alloc (.deferred (some []))) (.loop (rec .ready none)); rwa [World.size_alloc] at this
  have hD1 : W1.heap[w.heap.size]? = some (.deferred (some [])) := by
    rw [← hW1]; exact (Below.heap_alloc _ _ _ (by simp)).trans (heap_new w _)
  have hI1 : I [] W1 := by rw [← hW1]; exact hI.alloc _ (hI.alloc _ h0)
  refine ⟨w.heap.size + 1, [{ target := .collected w.heap.size, args := #[] }], W1, { target := .fn (.func gf) lb, args := #[.func (.yield (w.heap.size + 1)) #[] #[]] }, W1, gf,
    #[.func (.yield (w.heap.size + 1)) #[] #[]] ++ lb, W1, ?_, ?_, ?_, ?_, fun _ => h1, ?_⟩
  · rw [← hW1, hrec]; exact run_enterLoop_outer _ _ _ _ _
  · simp only [resolve, hg]
    simp [go_sem]
  · intro f' hf'; simp [Target.leads] at hf'; subst hf'; exact hFg
  · simp [invoke, go_sem, eg]
  · refine (hseq (w.heap.size + 1) (fun pre W => I pre W ∧ W.heap[w.heap.size + 1]? = some (.loop (rec .ready none)) ∧ W.heap[w.heap.size]? = some (.deferred (some [])))
      (fun pre W => ∃ c, Ix c pre W ∧ W.heap[w.heap.size + 1]? = some (.loop (rec .done (some c))) ∧ W.heap[w.heap.size]? = some (.deferred (some []))) W1 hkw
      (fun pre A B hC hJ => ⟨hIC pre A B hC hJ.1, (hCs A B _ hC (by omega) ⟨_, hJ.2.1, rfl⟩).trans hJ.2.1, (hCs A B _ hC (Nat.le_refl _) ⟨_, hJ.2.2, rfl⟩).trans hJ.2.2⟩) ?_ ⟨hI1, hL1, hD1⟩).mono ?_
    · rintro pre x W ⟨hi, hl, hk⟩ hlen
      have hlt : w.heap.size + 1 < W.heap.size := (Array.getElem?_eq_some_iff.1 hl).1
      have hy := run_yield (P := P) (args := encs x) hl (by rw [hrec]; exact hps x)
      rw [hrec] at hy
      refine ⟨fn, _, assign, body, hy, roundIn_of_wpIn hfn (hassign _ x W _ ⟨_, run_beginRound hl (by rw [hrec]), ?_⟩)⟩
      have hl2 : (W.putObj (w.heap.size + 1) (.loop { rec .ready none with state := .busy })).heap[w.heap.size + 1]? = some (.loop { rec .ready none with state := .busy }) := World.putObj_heap_same hlt
      have hk2 : (W.putObj (w.heap.size + 1) (.loop { rec .ready none with state := .busy })).heap[w.heap.size]? = some (.deferred (some [])) := (World.putObj_heap_other (by omega)).trans hk
      refine wpIn_mono (hbody _ pre x _ (hI.putObj _ hi (by omega) hl rfl) hlen) ?_
      rintro e a3 W3 hp
      cases e with
      | normal =>
        obtain ⟨hk3, hkp3, hi3⟩ := hp
        have hl3 := hk3.same _ _ (by omega) hl2 rfl
        have hr := run_endRound (P := P) none hl3
        have hl3' : W3.heap[w.heap.size + 1]? = some (.loop { rec .ready none with state := .busy }) := hl3
        rw [hrec] at hr
        refine ⟨_, _, hr, .inl ⟨rfl, ⟨hI.putObj _ hi3 (by omega) hl3' rfl, ?_, ?_⟩, hKt (hKt (hKb _ _ _ (by omega)) hkp3) (hKb _ _ _ (by omega))⟩⟩
        · rw [hrec]; exact World.putObj_heap_same (Array.getElem?_eq_some_iff.1 hl3).1
        · exact (World.putObj_heap_other (by omega)).trans (hk3.same _ _ (Nat.le_refl _) hk2 rfl)
      | ret => exact hp.elim
      | exit id =>
        obtain ⟨hk3, hi3⟩ := hp
        have hl3 := hk3.same _ _ (by omega) hl2 rfl
        have hr := run_endRound (P := P) (some (.exit id)) hl3
        have hl3' : W3.heap[w.heap.size + 1]? = some (.loop { rec .ready none with state := .busy }) := hl3
        rw [hrec] at hr
        refine ⟨_, _, hr, .inr ⟨rfl, .exit id, (hIx _).putObj _ hi3 (by omega) hl3' rfl, ?_, ?_⟩⟩
        · rw [hrec]; exact World.putObj_heap_same (Array.getElem?_eq_some_iff.1 hl3).1
        · exact (World.putObj_heap_other (by omega)).trans (hk3.same _ _ (Nat.le_refl _) hk2 rfl)
      | goto t => exact hp.elim
      | panic ch => exact hp.elim
      | outgrown => exact hp.elim
    · rintro e W2 ⟨⟨v, rfl⟩, (⟨xs, hS, hi, hl, hk⟩ | ⟨pre, hSp, c, hi, hl, hk⟩)⟩
      rotate_left
      · exact ⟨some c, _, by have := run_endLoop (P := P) hl (by rw [hrec]; simp); rw [hrec] at this; exact this, hstop _ c pre _ (Nat.le_refl _) hSp ((hIx c).putObj _ hi (by omega) hl rfl) ((World.putObj_heap_other (by omega)).trans hk)⟩
      exact ⟨none, _, by have := run_endLoop (P := P) hl (by rw [hrec]; simp); rw [hrec] at this; exact this, hdone _ xs _ (Nat.le_refl _) hS (hI.putObj _ hi (by omega) hl rfl) ((World.putObj_heap_other (by omega)).trans hk)⟩

end

set_option maxRecDepth 100000 in
set_option maxHeartbeats 1000000 in
theorem merged1_end (G : List Nat) (pa pb : Nat) (a b : List ByteArray) (w : World) (hpa : pa ∉ G) (hpb : pb ∉ G) (hne : pa ≠ pb) (hG : ∀ k ∈ G, k < w.heap.size) (h : MergeMem G pa pb a b [] w) :
    SeqEnd Fence.wide 7 Tryz.prog 169 #[.pointer (some ⟨pa, 0, none⟩), .pointer (some ⟨pb, 0, none⟩)] (fun x : ByteArray => #[.string x]) (Keeps (fun k => k = pa ∨ k = pb)) (KpM (pa :: pb :: G)) (fun xs => MergeAt a b [] [] xs) (fun xs => ∃ a' b', MergeAt a b a' b' xs) (a.length + b.length) w := by
  intro l J Jx W hW hJC hY h0
  have hM0 : MergeMem G pa pb a b [] W := by
    obtain ⟨va, vb, a', b', h1, h2, h3, h4, h5⟩ := h
    have hk : ∀ k ∈ G, W.heap[k]? = w.heap[k]? := fun k hk => hW.block k (hG k hk) (fun h => h)
    exact ⟨va, vb, a', b', (hW.block pa (Array.getElem?_eq_some_iff.1 h1).1 (fun h => h)).trans h1, (hW.block pb (Array.getElem?_eq_some_iff.1 h2).1 (fun h => h)).trans h2, h3.kept hk, h4.kept hk, h5⟩
  refine callsIn_of_wp Tryz.func169 rfl trivial ?_ rfl
  simp only [Tryz.ntmps169, List.size_toArray, List.length_cons, List.length_nil, Nat.reduceAdd, Nat.reduceSub, Array.replicate_succ, Array.replicate_zero, List.push_toArray, List.append_toArray, List.nil_append, List.cons_append]
  gi_wp2
  gi_loopw [4] (fun _ wr => ∃ pre, J pre wr ∧ MergeMem G pa pb a b pre wr ∧ ∀ k ∈ G, k < wr.heap.size) (fun _ wr => boxLen wr pa + boxLen wr pb)
  case atStart => exact ⟨[], h0, hM0, fun k hk => Nat.lt_of_lt_of_le (hG k hk) hW.size⟩
  case round =>
    obtain ⟨pre, hJ, ⟨va, vb, a', b', h1, h2, h3, h4, h5⟩, hGr⟩ := hrel
    clear hM0 h0 h hW
    obtain ⟨oa, ca, rfl⟩ := h3.form
    obtain ⟨ob, cb, rfl⟩ := h4.form
    by_cases hne' : a' = [] ∧ b' = []
    · obtain ⟨rfl, rfl⟩ := hne'
      have c1 := cell_of_heap h1 0
      have c2 := cell_of_heap h2 0
      have HJ := hid hJ
      have H5 := hid h5
      simp at c1 c2
      clear h1 h2 h3 h4 h5 hJ hJC hY
      gi_wp2
      go_end0
      exact ⟨⟨_, rfl⟩, .inl ⟨pre, H5.out, HJ.out⟩⟩
    · have hne2 : a' ≠ [] ∨ b' ≠ [] := by
        by_cases e : a' = []
        · exact .inr (fun e2 => hne' ⟨e, e2⟩)
        · exact .inl e
      have HLE := hid (least_any _ _ a' b' wr h3 h4 hne2)
      have HST := hid (h5.step hne2)
      have HLS := hid (merge_less a' b' hne2)
      have HLN : Hid (pre.length < a.length + b.length) := by
        have h8 := h5.len
        have h9 := merge_less a' b' hne2
        show _ < _
        omega
      generalize leastL a' b' = key at HLE HST HLS
      have c1 := cell_of_heap h1 0
      have c2 := cell_of_heap h2 0
      simp at c1 c2
      have H1 := hid h1
      have H2 := hid h2
      have H3 := hid h3
      have H4 := hid h4
      have HJ := hid hJ
      have HJC := hid hJC
      have HY := hid hY
      have hcase : (0 < a'.length) ∨ (a'.length = 0 ∧ 0 < b'.length) := by
        rcases Nat.eq_zero_or_pos a'.length with e | e
        · right
          refine ⟨e, ?_⟩
          have : b'.length ≠ 0 := fun e2 => hne' ⟨List.eq_nil_of_length_eq_zero e, List.eq_nil_of_length_eq_zero e2⟩
          omega
        · left; exact e
      have HGL : Hid (∀ k ∈ G, k < wr.heap.size) := hGr
      clear h1 h2 h3 h4 h5 hJ hJC hY hne' hne2 hGr
      generalize hna : a'.length = na at HLE H1 H2 H3 H4 c1 c2 hcase
      have HNA := hid hna
      clear hna
      rcases hcase with hca | ⟨hca, hcb⟩
      · gi_wp2_with (refine ⟨trivial, ?_⟩; gi_at_call 170; go_must (refine (callsIn_wide.2 HLE.out).mono ?_; rintro e w1 ⟨rfl, k1⟩; have d1 := (k1.block pa (Array.getElem?_eq_some_iff.1 H1.out).1 (fun h => h)).trans H1.out; have d2 := (k1.block pb (Array.getElem?_eq_some_iff.1 H2.out).1 (fun h => h)).trans H2.out; have e1 := cell_of_heap d1 0; have e2 := cell_of_heap d2 0; have f1 := frozen_of_heap d1 0; have f2 := frozen_of_heap d2 0; simp at e1 e2; have D1 := hid d1; have D2 := hid d2; have K1 := hid k1; clear d1 d2 k1 c1 c2))
        obtain ⟨va2, hva2⟩ : ∃ v, v = behindV (.slice oa na ca) (hitB a' key) := ⟨_, rfl⟩
        obtain ⟨vb2, hvb2⟩ : ∃ v, v = behindV (.slice ob b'.length cb) (hitB b' key) := ⟨_, rfl⟩
        have hGk : ∀ k ∈ G, w1.heap[k]? = wr.heap[k]? := fun k hk => K1.out.block k (HGL.out k hk) (fun h => h)
        have S3 := hid (H3.out.kept hGk)
        have S4 := hid (H4.out.kept hGk)
        have HBA : Hid (∀ W, (∀ k ∈ G, W.heap[k]? = w1.heap[k]?) → Calls Tryz.prog 171 #[.slice oa na ca, .string key] W fun e w' => e = .returned va2 ∧ w' = W) := fun W hk => by have := behind_any _ key a' W (S3.out.kept hk); rwa [← hva2] at this
        have HBB : Hid (∀ W, (∀ k ∈ G, W.heap[k]? = w1.heap[k]?) → Calls Tryz.prog 171 #[.slice ob b'.length cb, .string key] W fun e w' => e = .returned vb2 ∧ w' = W) := fun W hk => by have := behind_any _ key b' W (S4.out.kept hk); rwa [← hvb2] at this
        have T3 := hid (S3.out.behind key)
        have T4 := hid (S4.out.behind key)
        rw [← hva2] at T3
        rw [← hvb2] at T4
        clear hva2 hvb2 hGk
        obtain ⟨oa2, ca2, rfl⟩ := T3.out.form
        obtain ⟨ob2, cb2, rfl⟩ := T4.out.form
        have HKW : Hid (Keeps (fun k => k = pa ∨ k = pb) wr (((w1.setCell ⟨pa, 0, none⟩ (.slice oa2 (behindL a' key).length ca2)).setCell ⟨pb, 0, none⟩ (.slice ob2 (behindL b' key).length cb2)).drew)) := (((K1.out.mono (fun _ _ h => h.elim)).trans (Keeps.setCell _ _ _) (fun k _ e => .inl e)).trans (Keeps.setCell _ _ _) (fun k _ e => .inr e)).dr
        have HY3 := hid (HY.out pre key _ (HJC.out pre wr _ HKW.out HJ.out) HLN.out)
        have HGW : Hid (∀ k ∈ G, k < w1.heap.size) := fun k hk => Nat.lt_of_lt_of_le (HGL.out k hk) K1.out.size
        have hm1 : boxLen wr pa + boxLen wr pb = a'.length + b'.length := by rw [HNA.out]; simp [boxLen, cell_of_heap H1.out 0, cell_of_heap H2.out 0]
        have HM1 := hid hm1
        clear hm1
        gi_region_with (first
          | (refine ⟨trivial, ?_⟩; gi_at_call_has 171 (Value.slice oa na ca); go_must (refine (callsIn_wide.2 (HBA.out w1.drew (fun _ _ => rfl))).mono ?_; rintro e wz ⟨rfl, rfl⟩))
          | (refine ⟨trivial, ?_⟩; gi_at_call_has 171 (Value.slice ob b'.length cb); go_must (refine (callsIn_wide.2 (HBB.out w1.drew (fun _ _ => rfl))).mono ?_; rintro e wz ⟨rfl, rfl⟩)))
        all_goals
          obtain ⟨fn, tmps, assign, body, hy, hR⟩ := HY3.out
          clear HY3 HY HJC HBA HBB HLE
          gi_wp2
          refine hR.mono ?_
          rintro e W4 (⟨rfl, hJ4, hk4⟩ | ⟨rfl, hX4⟩)
          rotate_left
          · have HX4 := hid hX4
            clear hX4 hy hR e1 e2 f1 f2
            gi_wp2
            refine bodyPost_ret (results_none rfl _ _ _) rfl ?_
            exact ⟨⟨_, rfl⟩, .inr ⟨pre ++ [key], ⟨_, _, HST.out⟩, HX4.out⟩⟩
          obtain ⟨hmem, x1, x2⟩ := merge_next hpa hpb hne HGW.out D1.out D2.out T3.out T4.out HST.out hk4
          have HMEM := hid hmem
          have HJ4 := hid hJ4
          have hm4 : boxLen W4 pa + boxLen W4 pb = (behindL a' key).length + (behindL b' key).length := by simp [boxLen, x1, x2]
          have HM4 := hid hm4
          clear hmem hJ4 hk4 hm4 hy hR x1 x2 e1 e2 f1 f2
          gi_wp2
          exact ⟨⟨pre ++ [key], HJ4.out, HMEM.out⟩, by rw [HM1.out, HM4.out]; exact HLS.out⟩
      · subst hca
        gi_wp2_with (refine ⟨trivial, ?_⟩; gi_at_call 170; go_must (refine (callsIn_wide.2 HLE.out).mono ?_; rintro e w1 ⟨rfl, k1⟩; have d1 := (k1.block pa (Array.getElem?_eq_some_iff.1 H1.out).1 (fun h => h)).trans H1.out; have d2 := (k1.block pb (Array.getElem?_eq_some_iff.1 H2.out).1 (fun h => h)).trans H2.out; have e1 := cell_of_heap d1 0; have e2 := cell_of_heap d2 0; have f1 := frozen_of_heap d1 0; have f2 := frozen_of_heap d2 0; simp at e1 e2; have D1 := hid d1; have D2 := hid d2; have K1 := hid k1; clear d1 d2 k1 c1 c2))
        obtain ⟨va2, hva2⟩ : ∃ v, v = behindV (.slice oa 0 ca) (hitB a' key) := ⟨_, rfl⟩
        obtain ⟨vb2, hvb2⟩ : ∃ v, v = behindV (.slice ob b'.length cb) (hitB b' key) := ⟨_, rfl⟩
        have hGk : ∀ k ∈ G, w1.heap[k]? = wr.heap[k]? := fun k hk => K1.out.block k (HGL.out k hk) (fun h => h)
        have S3 := hid (H3.out.kept hGk)
        have S4 := hid (H4.out.kept hGk)
        have HBA : Hid (∀ W, (∀ k ∈ G, W.heap[k]? = w1.heap[k]?) → Calls Tryz.prog 171 #[.slice oa 0 ca, .string key] W fun e w' => e = .returned va2 ∧ w' = W) := fun W hk => by have := behind_any _ key a' W (S3.out.kept hk); rwa [← hva2] at this
        have HBB : Hid (∀ W, (∀ k ∈ G, W.heap[k]? = w1.heap[k]?) → Calls Tryz.prog 171 #[.slice ob b'.length cb, .string key] W fun e w' => e = .returned vb2 ∧ w' = W) := fun W hk => by have := behind_any _ key b' W (S4.out.kept hk); rwa [← hvb2] at this
        have T3 := hid (S3.out.behind key)
        have T4 := hid (S4.out.behind key)
        rw [← hva2] at T3
        rw [← hvb2] at T4
        clear hva2 hvb2 hGk
        obtain ⟨oa2, ca2, rfl⟩ := T3.out.form
        obtain ⟨ob2, cb2, rfl⟩ := T4.out.form
        have HKW : Hid (Keeps (fun k => k = pa ∨ k = pb) wr (((w1.setCell ⟨pa, 0, none⟩ (.slice oa2 (behindL a' key).length ca2)).setCell ⟨pb, 0, none⟩ (.slice ob2 (behindL b' key).length cb2)).drew)) := (((K1.out.mono (fun _ _ h => h.elim)).trans (Keeps.setCell _ _ _) (fun k _ e => .inl e)).trans (Keeps.setCell _ _ _) (fun k _ e => .inr e)).dr
        have HY3 := hid (HY.out pre key _ (HJC.out pre wr _ HKW.out HJ.out) HLN.out)
        have HGW : Hid (∀ k ∈ G, k < w1.heap.size) := fun k hk => Nat.lt_of_lt_of_le (HGL.out k hk) K1.out.size
        have hm1 : boxLen wr pa + boxLen wr pb = a'.length + b'.length := by rw [HNA.out]; simp [boxLen, cell_of_heap H1.out 0, cell_of_heap H2.out 0]
        have HM1 := hid hm1
        clear hm1
        gi_region_with (first
          | (refine ⟨trivial, ?_⟩; gi_at_call_has 171 (Value.slice oa 0 ca); go_must (refine (callsIn_wide.2 (HBA.out w1.drew (fun _ _ => rfl))).mono ?_; rintro e wz ⟨rfl, rfl⟩))
          | (refine ⟨trivial, ?_⟩; gi_at_call_has 171 (Value.slice ob b'.length cb); go_must (refine (callsIn_wide.2 (HBB.out w1.drew (fun _ _ => rfl))).mono ?_; rintro e wz ⟨rfl, rfl⟩)))
        all_goals
          obtain ⟨fn, tmps, assign, body, hy, hR⟩ := HY3.out
          clear HY3 HY HJC HBA HBB HLE
          gi_wp2
          refine hR.mono ?_
          rintro e W4 (⟨rfl, hJ4, hk4⟩ | ⟨rfl, hX4⟩)
          rotate_left
          · have HX4 := hid hX4
            clear hX4 hy hR e1 e2 f1 f2
            gi_wp2
            refine bodyPost_ret (results_none rfl _ _ _) rfl ?_
            exact ⟨⟨_, rfl⟩, .inr ⟨pre ++ [key], ⟨_, _, HST.out⟩, HX4.out⟩⟩
          obtain ⟨hmem, x1, x2⟩ := merge_next hpa hpb hne HGW.out D1.out D2.out T3.out T4.out HST.out hk4
          have HMEM := hid hmem
          have HJ4 := hid hJ4
          have hm4 : boxLen W4 pa + boxLen W4 pb = (behindL a' key).length + (behindL b' key).length := by simp [boxLen, x1, x2]
          have HM4 := hid hm4
          clear hmem hJ4 hk4 hm4 hy hR x1 x2 e1 e2 f1 f2
          gi_wp2
          exact ⟨⟨pre ++ [key], HJ4.out, HMEM.out⟩, by rw [HM1.out, HM4.out]; exact HLS.out⟩

end Go.Proofs.YtfcocbcihhdbkaaGreatDoor

/- Scan, from whatever key on, with whatever bound. -/
namespace Go.Proofs.YtfcocbcihhdbkaaGreatDoor
open Go.RowKit Go.Shelf

attribute [local go_sem] Oper.semAt_some

/-- at most so many, if that is 0 or above -/
def takeM {α : Type} (most : Int) (l : List α) : List α := if most < 0 then l else l.take most.toNat

/-- what Scan leaves -/
def ScanPostG (R : Rep) (x : WkR) (from_ : ByteArray) (most : Int) (w : World) (e : Ending) (w' : World) : Prop :=
  ∃ v xs kw, e = .returned (.tuple #[v, .int .i64 0]) ∧ Rises kw ∧ kw.Perm (x.writes.map (·.1)) ∧ MergeAt (R.keys.drop (below R.keys from_)) (kw.drop (below kw from_)) [] [] xs ∧
    Row w' 90 2 v (takeM most (xs.filterMap (pairOf x.writes (versOf R.hist) x.began))).length ((takeM most (xs.filterMap (pairOf x.writes (versOf R.hist) x.began))).flatMap pairCells) ∧ (∀ g, v.ownBlock = some g → w.heap.size ≤ g) ∧ Keeps (fun _ => False) w w'

/-- a merge can be brought to its end -/
theorem merge_whole {a b : List ByteArray} : ∀ (n : Nat) (a' b' pre : List ByteArray), a'.length + b'.length ≤ n → MergeAt a b a' b' pre → ∃ rest, MergeAt a b [] [] (pre ++ rest)
  | 0, a', b', pre, hn, h => by
    have e1 : a' = [] := List.eq_nil_of_length_eq_zero (by omega)
    have e2 : b' = [] := List.eq_nil_of_length_eq_zero (by omega)
    subst e1; subst e2
    exact ⟨[], by simpa using h⟩
  | n + 1, a', b', pre, hn, h => by
    by_cases hne : a' ≠ [] ∨ b' ≠ []
    · have h1 := merge_less a' b' hne
      obtain ⟨rest, h2⟩ := merge_whole n _ _ _ (by omega) (h.step hne)
      exact ⟨leastL a' b' :: rest, by simpa using h2⟩
    · have e1 : a' = [] := Classical.byContradiction (fun e => hne (.inl e))
      have e2 : b' = [] := Classical.byContradiction (fun e => hne (.inr e))
      subst e1; subst e2
      exact ⟨[], by simpa using h⟩

theorem takeM_all {α : Type} {most : Int} {l : List α} (h : most < 0 ∨ (l.length : Int) ≤ most) : takeM most l = l := by
  unfold takeM
  split
  · rfl
  · exact List.take_of_length_le (by omega)

theorem takeM_more {α : Type} {most : Int} {l r : List α} (h : (l.length : Int) = most) : takeM most (l ++ r) = l := by
  unfold takeM
  rw [if_neg (by omega), List.take_append_of_le_length (by omega), List.take_of_length_le (by omega)]

/-- between two rounds, and where it is enough -/
def ScanI (f : ByteArray → Option (ByteArray × ByteArray)) (most : Int) (pB pa pb : Nat) (w5 : World) (pre : List ByteArray) (W : World) : Prop :=
  ScanAt f pB pa pb w5 pre W ∧ (most < 0 ∨ ((pre.filterMap f).length : Int) ≤ most)

def ScanX (f : ByteArray → Option (ByteArray × ByteArray)) (most : Int) (pB pa pb : Nat) (w5 : World) (c : Code) (xs : List ByteArray) (W : World) : Prop :=
  ∃ pre key, xs = pre ++ [key] ∧ ScanAt f pB pa pb w5 pre W ∧ ((pre.filterMap f).length : Int) = most ∧ c = .exit 0

theorem row_eq {w : World} {t : TypeId} {v : Value} {l l' : List (ByteArray × ByteArray)} (e : l' = l) (h : Row w t 2 v l.length (l.flatMap pairCells)) : Row w t 2 v l'.length (l'.flatMap pairCells) := by rw [e]; exact h

theorem rises_drop {ks : List ByteArray} (h : Rises ks) (n : Nat) : Rises (ks.drop n) := h.sublist (List.drop_sublist _ _)

theorem scan_goesOnX {f : ByteArray → Option (ByteArray × ByteArray)} {pB pa pb : Nat} {G : List Nat} {w5 W W4 : World} {v v' : Value} {pre : List ByteArray} {key : ByteArray} {e : TypeId} {m : Nat} {xs : List Value} {most : Int} (a : Act) (hB : pB < w5.heap.size) (hL : ∀ k ∈ pa :: pb :: G, k < w5.heap.size ∧ k ≠ pB)
    (hrow : Row W e 2 v m xs) (hown : ∀ g, v.ownBlock = some g → w5.heap.size ≤ g) (hkeep : Keeps (fun k => k = pB ∨ k = pa ∨ k = pb) w5 W) (hk : Keeps (fun k => k = pB ∨ some k = v.ownBlock) W W4)
    (hb4 : W4.heap[pB]? = some (.cells #[v'] 55 (0, 0))) (hr4 : Row W4 90 2 v' ((pre ++ [key]).filterMap f).length (((pre ++ [key]).filterMap f).flatMap pairCells)) (ho4 : ∀ g, v'.ownBlock = some g → w5.heap.size ≤ g) (hmo : most < 0 ∨ (((pre ++ [key]).filterMap f).length : Int) ≤ most) :
    goesOnX w5.heap.size (KpM (pa :: pb :: G)) (ScanI f most pB pa pb w5) (ScanX f most pB pa pb w5) (pre ++ [key]) W .normal a W4 := by
  refine ⟨⟨hk.size, fun k o hBk hko hc => ?_⟩, ⟨hk.size, fun k hkG => ?_⟩, ⟨v', hb4, hr4, ho4, hkeep.trans hk (fun k hk' e => ?_)⟩, hmo⟩
  · refine (hk.block k (Array.getElem?_eq_some_iff.1 hko).1 ?_).trans hko
    rintro (e | e)
    · omega
    · obtain ⟨cur, hcur⟩ := hrow.cellsAt e.symm
      rw [hcur] at hko
      cases hko
      cases hc
  · obtain ⟨l1, l2⟩ := hL k hkG
    refine hk.block k (Nat.lt_of_lt_of_le l1 hkeep.size) ?_
    rintro (e | e)
    · exact l2 e
    · have := hown k e.symm
      omega
  · rcases e with e | e
    · exact .inl e
    · have := hown k e.symm
      omega

set_option maxRecDepth 100000 in
set_option maxHeartbeats 2000000 in
theorem scan_from (R : Rep) (n : Int) (x : WkR) (from_ : ByteArray) (most : Int) (w : World) (h : StoreAt w R) (g : Good R) (t : Tied R) (hn : look R.works n = some x) (hkl : R.keys.length < 1000000000000) (hfs : from_.size ≤ 10) (hm1 : -9223372036854775808 ≤ most) (hm2 : most ≤ 9223372036854775807) :
    Calls Tryz.prog 55 #[.pointer (some ⟨R.sb, 0, none⟩), .int .i64 n, .string from_, .int .i64 most] w (ScanPostG R x from_ most w) := by
  have hk0 : Keeps (fun _ => False) w ((w.alloc (.cells #[.pointer (some ⟨R.sb, 0, none⟩)] 43)).alloc (.cells #[.int .i64 most] 3)) := ((Keeps.refl _ w).al _).al _
  have hf := find_any R n _ (h.kept hk0 (fun _ _ h => h))
  rw [hn] at hf
  simp only [Option.map_some, Option.getD_some, workPtr] at hf
  have HF := hid hf
  have hdf : decide (10 < (from_.size : Int)) = false := decide_eq_false (by omega)
  have HST := hid h
  have HG := hid g
  have HT := hid t
  have HN := hid hn
  clear hf hk0 h g t hn
  refine (callsIn_wide (n := 8)).1 ?_
  refine callsIn_of_wp_marks Tryz.func55 rfl trivial ?_ rfl
  simp only [Tryz.ntmps55, List.size_toArray, List.length_cons, List.length_nil, Nat.reduceAdd, Nat.reduceSub, Array.replicate_succ, Array.replicate_zero, List.push_toArray, List.append_toArray, List.nil_append, List.cons_append]
  gi_wp2_with (refine ⟨trivial, ?_⟩; gi_at_call 97; go_must (refine (callsIn_wide.2 HF.out).mono ?_; rintro e w1 ⟨rfl, rfl⟩))
  obtain ⟨LA, hLA⟩ : ∃ LA, LA = R.keys.drop (below R.keys from_) := ⟨_, rfl⟩
  have HKEYS : Hid (∀ W, Keeps (fun _ => False) w W → Calls Tryz.prog 106 #[.pointer (some ⟨R.sb, 7, none⟩), .string from_] W fun e w' => ∃ v, e = .returned v ∧ Seg R.kv.ownBlock.toList w' v LA ∧ Keeps (fun _ => False) W w') := fun W hW => by
    rw [hLA]
    exact pastKeys_from R from_ W (HST.out.kept hW (fun _ _ h => h)) HT.out.rises hkl
  have HWK : Hid (∀ W, Keeps (fun _ => False) w W → Calls Tryz.prog 107 #[.pointer (some ⟨x.blk, 0, none⟩), .string from_] W fun e w' => ∃ v ks lb G, e = .returned v ∧ Hid (lb = ks.drop (below ks from_)) ∧ Seg G w' v lb ∧ Rises ks ∧ ks.Perm (x.writes.map (·.1)) ∧ Keeps (fun _ => False) W w' ∧ (∀ k ∈ G, W.heap.size < k ∧ k < w'.heap.size)) := fun W hW => by
    obtain ⟨c0, c1, hm⟩ := (HST.out.kept hW (fun _ _ h => h)).works.work (look_mem HN.out)
    have h30 := HG.out.writes30 _ (look_mem HN.out)
    have hwk := HG.out.wkeys _ (look_mem HN.out)
    refine (keys_from x.blk x.mb from_ _ W c1 hm (fun p hp => ?_) (by simp; simp at h30; omega)).mono ?_
    · obtain ⟨q, hq, rfl⟩ := List.mem_map.1 hp
      have := (hwk q hq).1
      simp [keyB] at this
      unfold maxLen
      simp
      omega
    · rintro e w' ⟨v, ks, G, h1, h2, h3, h4, h5, h6⟩
      exact ⟨v, ks, _, G, h1, hid rfl, h2, h3, by simpa [List.map_map, Function.comp_def] using h4, h5, h6⟩
  have HLAQ := hid hLA
  clear HF hLA
  have hkW : Keeps (fun _ => False) w ((((w.alloc (.cells #[.pointer (some ⟨R.sb, 0, none⟩)] 43)).alloc (.cells #[.int .i64 most] 3)).alloc (.cells #[.pointer (some ⟨x.blk, 0, none⟩)] 173)).alloc (.cells #[.slice none 0 0] 55)) := ((((Keeps.refl _ w).al _).al _).al _).al _
  have HKW := hid hkW
  clear hkW
  rename_i K1 hK1 K0 hK0
  have hrest : ∀ (w3 : World) (oa ob : Option Addr) (ca cb : Nat) (la lb ks : List ByteArray) (Gb : List Nat), Keeps (fun _ => False) ((((w.alloc (.cells #[.pointer (some ⟨R.sb, 0, none⟩)] 43)).alloc (.cells #[.int .i64 most] 3)).alloc (.cells #[.pointer (some ⟨x.blk, 0, none⟩)] 173)).alloc (.cells #[.slice none 0 0] 55)) w3 → la = R.keys.drop (below R.keys from_) → lb = ks.drop (below ks from_) → Seg R.kv.ownBlock.toList w3 (.slice oa la.length ca) la → Seg Gb w3 (.slice ob lb.length cb) lb → Rises ks → ks.Perm (x.writes.map (·.1)) → (∀ k ∈ Gb, w.heap.size + 4 < k ∧ k < w3.heap.size) →
      K0 { tmps := #[Value.pointer (some ⟨R.sb, 0, none⟩), .int .i64 n, .string from_, .int .i64 most, .pointer (some ⟨w.heap.size, 0, none⟩), undef, undef, .pointer (some ⟨w.heap.size + 1, 0, none⟩), .slice none 0 0, .int .i64 0, .pointer (some ⟨w.heap.size + 1 + 1, 0, none⟩), .pointer (some ⟨w.heap.size + 1 + 1 + 1, 0, none⟩), undef, undef, undef, .pointer (some ⟨R.sb, 0, none⟩), .int .i64 n, .pointer (some ⟨x.blk, 0, none⟩), .pointer (some ⟨x.blk, 0, none⟩), .bool false, .string from_, .int .i64 from_.size, .bool false, .pointer (some ⟨R.sb, 0, none⟩), .pointer (some ⟨R.sb, 0, none⟩), .pointer (some ⟨R.sb, 7, none⟩), .string from_, .slice oa la.length ca, .pointer (some ⟨x.blk, 0, none⟩), .string from_, .slice ob lb.length cb, .func (.func 169) #[] #[.pointer (some ⟨w3.heap.size, 0, none⟩), .pointer (some ⟨w3.heap.size + 1, 0, none⟩)], undef, undef, undef, undef, undef, undef, undef, undef, undef, undef, undef, undef, undef, undef, undef, undef, undef, undef, undef, undef], defers := [] } ((w3.alloc (.cells #[.slice oa la.length ca] 26)).alloc (.cells #[.slice ob lb.length cb] 26)) := by
    intro w3 oa ob ca cb la lb ks Gb h1 hla hlb h2a h2 h3 h4 h5
    refine hK0 _ _ ?_
    dsimp only
    have hkw3 : Keeps (fun _ => False) w w3 := HKW.out.tr h1 (fun _ h => h)
    have hz : w.heap.size + 4 ≤ w3.heap.size := by have := h1.size; simp at this; omega
    have hS3 : StoreAt w3 R := HST.out.kept hkw3 (fun _ _ h => h)
    obtain ⟨w5, hw5⟩ : ∃ w5, (w3.alloc (.cells #[.slice oa la.length ca] 26)).alloc (.cells #[.slice ob lb.length cb] 26) = w5 := ⟨_, rfl⟩
    have hk35 : Keeps (fun _ => False) w3 w5 := by rw [← hw5]; exact ((Keeps.refl _ w3).al _).al _
    have hzz : w5.heap.size = w3.heap.size + 2 := by rw [← hw5]; simp
    have qa : w5.heap[w3.heap.size]? = some (.cells #[.slice oa la.length ca] 26 (0, 0)) := by rw [← hw5]; exact (Below.heap_alloc _ _ _ (by simp)).trans (heap_new w3 _)
    have qb : w5.heap[w3.heap.size + 1]? = some (.cells #[.slice ob lb.length cb] 26 (0, 0)) := by
      rw [← hw5]
      have := heap_new (w3.alloc (.cells #[.slice oa la.length ca] 26)) (.cells #[.slice ob lb.length cb] 26)
      simpa using this
    rw [hw5]
    clear hw5
    have hkv : ∀ k ∈ R.kv.ownBlock.toList, k < w.heap.size := fun k hk => fp_lt HST.out k (by simp only [Rep.fp, Rep.fpPast, List.mem_cons, List.mem_append]; exact .inr (.inr (.inl (.inl hk))))
    obtain ⟨G, hGe⟩ : ∃ G, R.kv.ownBlock.toList ++ Gb = G := ⟨_, rfl⟩
    have hG : ∀ k ∈ G, k < w3.heap.size ∧ k ≠ w.heap.size + 1 + 1 + 1 := fun k hk => by
      rw [← hGe] at hk
      rcases List.mem_append.1 hk with hk | hk
      · have := hkv k hk; omega
      · have := h5 k hk; omega
    have hmore : ∀ {G1 G2 : List Nat} {W : World} {v : Value} {l : List ByteArray}, Seg G1 W v l → (∀ k ∈ G1, k ∈ G2) → Seg G2 W v l := fun h hs => by
      rcases h with h | ⟨g, off, cap, hg, r⟩
      · exact .inl h
      · exact .inr ⟨g, off, cap, hs g hg, r⟩
    have hmem : MergeMem G w3.heap.size (w3.heap.size + 1) la lb [] w5 := by
      refine ⟨_, _, la, lb, qa, qb, ?_, ?_, ⟨List.Pairwise.nil, by rw [hla]; exact rises_drop HT.out.rises _, by rw [hlb]; exact rises_drop h3 _, fun k hk => (by cases hk), fun k => by simp, by simp⟩⟩
      · exact (hmore h2a (fun k hk => by rw [← hGe]; exact List.mem_append_left _ hk)).kept (fun k hk => hk35.block k (hG k hk).1 (fun h => h))
      · exact (hmore h2 (fun k hk => by rw [← hGe]; exact List.mem_append_right _ hk)).kept (fun k hk => hk35.block k (hG k hk).1 (fun h => h))
    have hseq := merged1_end G w3.heap.size (w3.heap.size + 1) la lb w5 (fun h => by have := (hG _ h).1; omega) (fun h => by have := (hG _ h).1; omega) (by omega) (fun k hk => by have := (hG k hk).1; omega) hmem
    have bx : ∀ (k : Nat) (o : Obj), ((((w.alloc (.cells #[.pointer (some ⟨R.sb, 0, none⟩)] 43)).alloc (.cells #[.int .i64 most] 3)).alloc (.cells #[.pointer (some ⟨x.blk, 0, none⟩)] 173)).alloc (.cells #[.slice none 0 0] 55)).heap[k]? = some o → w5.heap[k]? = some o := fun k o hk => (hk35.block k (Nat.lt_of_lt_of_le (Array.getElem?_eq_some_iff.1 hk).1 h1.size) (fun h => h)).trans ((h1.block k (Array.getElem?_eq_some_iff.1 hk).1 (fun h => h)).trans hk)
    have b1 : w5.heap[w.heap.size]? = some (.cells #[.pointer (some ⟨R.sb, 0, none⟩)] 43 (0, 0)) := bx _ _ (four_new w _ _ _ _).1
    have b2 : w5.heap[w.heap.size + 1]? = some (.cells #[.int .i64 most] 3 (0, 0)) := bx _ _ (four_new w _ _ _ _).2.1
    have b3 : w5.heap[w.heap.size + 1 + 1]? = some (.cells #[.pointer (some ⟨x.blk, 0, none⟩)] 173 (0, 0)) := bx _ _ (four_new w _ _ _ _).2.2.1
    have b4 : w5.heap[w.heap.size + 1 + 1 + 1]? = some (.cells #[.slice none 0 0] 55 (0, 0)) := bx _ _ (four_new w _ _ _ _).2.2.2
    have HS5 := hid (hS3.kept hk35 (fun _ _ h => h))
    have H24 := hid (And.intro h4 h3)
    have HKS := hid hkw3
    have HK35 := hid hk35
    have B1 := hid b1
    have B2 := hid b2
    have B3 := hid b3
    have HL : Hid (∀ k ∈ w3.heap.size :: (w3.heap.size + 1) :: G, k < w5.heap.size ∧ k ≠ w.heap.size + 1 + 1 + 1) := fun k hk => by
      rcases List.mem_cons.1 hk with rfl | hk
      · omega
      · rcases List.mem_cons.1 hk with rfl | hk
        · omega
        · have := hG k hk; omega
    have hpB : w.heap.size + 1 + 1 + 1 < w5.heap.size := by omega
    have h0 : ScanI (pairOf x.writes (versOf R.hist) x.began) most (w.heap.size + 1 + 1 + 1) w3.heap.size (w3.heap.size + 1) w5 [] w5 := ⟨⟨_, b4, Row.nil _ _ _, fun g hg => by simp [Value.ownBlock] at hg, Keeps.refl _ _⟩, by simp; omega⟩
    have hbound : la.length + lb.length < 2000000000000 := by
      rw [hla, hlb, List.length_drop, List.length_drop]
      have e1 := h4.length_eq
      have e2 := HG.out.writes30 _ (look_mem HN.out)
      simp at e1 e2
      omega
    have HLA := hid (And.intro hla hlb)
    clear h1 h2 h2a h3 h4 h5 hkw3 hS3 hk35 qa qb hkv hGe hG hmem bx b1 b2 b3 b4 hkl hK0 HKEYS HWK hmore hla hlb
    gi_wp2_with fail
    refine wpIn_range_end (α := ByteArray) rfl (by omega) (gf := 169) (lb := #[.pointer (some ⟨w3.heap.size, 0, none⟩), .pointer (some ⟨w3.heap.size + 1, 0, none⟩)]) rfl trivial (enters_of Tryz.func169 (by kernel_rfl) rfl)
      hseq ?cs (fun h k => ⟨Nat.le_trans h.1 k.1, fun j hj => (k.2 j hj).trans (h.2 j hj)⟩) ?kb (fun _ => rfl) (ScanI (pairOf x.writes (versOf R.hist) x.began) most (w.heap.size + 1 + 1 + 1) w3.heap.size (w3.heap.size + 1) w5) (ScanX (pairOf x.writes (versOf R.hist) x.began) most (w.heap.size + 1 + 1 + 1) w3.heap.size (w3.heap.size + 1) w5)
      (fun pre W W' row hs hg hr => ⟨scanAt_own hpB pre W W' row hs.1 hg hr, hs.2⟩) (fun c xs W W' row hs hg hr => by obtain ⟨pre, key, e1, e2, e3⟩ := hs; exact ⟨pre, key, e1, scanAt_own hpB pre W W' row e2 hg hr, e3⟩)
      (fun pre A B hC hs => ⟨scanAt_C (by omega) (by omega) (by omega) (by omega) pre A B hC hs.1, hs.2⟩) h0 (fun key => { tmps := #[Value.pointer (some ⟨R.sb, 0, none⟩), .int .i64 n, .string from_, .int .i64 most, .pointer (some ⟨w.heap.size, 0, none⟩), undef, undef, .pointer (some ⟨w.heap.size + 1, 0, none⟩), .slice none 0 0, .int .i64 0, .pointer (some ⟨w.heap.size + 1 + 1, 0, none⟩), .pointer (some ⟨w.heap.size + 1 + 1 + 1, 0, none⟩), .string key, undef, undef, .pointer (some ⟨R.sb, 0, none⟩), .int .i64 n, .pointer (some ⟨x.blk, 0, none⟩), .pointer (some ⟨x.blk, 0, none⟩), .bool false, .string from_, .int .i64 from_.size, .bool false, .pointer (some ⟨R.sb, 0, none⟩), .pointer (some ⟨R.sb, 0, none⟩), .pointer (some ⟨R.sb, 7, none⟩), .string from_, .slice oa la.length ca, .pointer (some ⟨x.blk, 0, none⟩), .string from_, .slice ob lb.length cb, .func (.func 169) #[] #[.pointer (some ⟨w3.heap.size, 0, none⟩), .pointer (some ⟨w3.heap.size + 1, 0, none⟩)], .string key, undef, undef, undef, undef, undef, undef, undef, undef, undef, undef, undef, undef, undef, undef, undef, undef, undef, undef, undef], defers := [] }) ?assign ?body ?done ?stop
    case cs =>
      rintro A B k hC hk ⟨o, ho, _⟩
      exact hC.block k (Array.getElem?_eq_some_iff.1 ho).1 (by rintro (e | e) <;> omega)
    case kb =>
      intro W l o' hl
      exact ⟨by simp, fun j hj => World.putObj_heap_other (by have := (HL.out j hj).1; omega)⟩
    case assign =>
      intro l key W K hK
      have ez : ∀ t : Array Value, (#[32].zip #[Value.string key]).foldl (fun t (p, v) => t.setIfInBounds p v) t = t.setIfInBounds 32 (.string key) := fun t => by simp [Array.zip]
      simp only [ez]
      gi_wp2
      exact hK
    case body =>
      intro l pre key W hI hlt
      obtain ⟨⟨v, q1, q2, q3, q4⟩, hIm⟩ := hI
      have bk : ∀ (k : Nat) (o : Obj), k < w.heap.size + 1 + 1 + 1 → w5.heap[k]? = some o → W.heap[k]? = some o := fun k o hk ho => (q4.block k (Array.getElem?_eq_some_iff.1 ho).1 (by rintro (e | e | e) <;> omega)).trans ho
      have c4 := cell_of_heap (bk _ _ (by omega) B1.out) 0
      have c7 := cell_of_heap (bk _ _ (by omega) B2.out) 0
      have c10 := cell_of_heap (bk _ _ (by omega) B3.out) 0
      have c11 := cell_of_heap q1 0
      simp at c4 c7 c10 c11
      have hSW : StoreAt W R := HS5.out.kept q4 (fun k hk e => by have := fp_lt HST.out k hk; rcases e with e | e | e <;> omega)
      have hsee := see_any R n x key W hSW HG.out (look_mem HN.out)
      simp only [workPtr] at hsee
      obtain ⟨av, cv, rfl, hmx, -⟩ := q2.form
      have hfl : (pre.filterMap (pairOf x.writes (versOf R.hist) x.began)).length ≤ pre.length := List.length_filterMap_le _ _
      obtain ⟨m, hm⟩ : ∃ m, m = (pre.filterMap (pairOf x.writes (versOf R.hist) x.began)).length := ⟨_, rfl⟩
      rw [← hm] at c11 q1 q2 q3 hfl hIm
      have HM := hid hm
      have HQ1 := hid q1
      have HQ2 := hid q2
      have HQ3 := hid q3
      have HQ4 := hid q4
      have hsv : pairOf x.writes (versOf R.hist) x.began key = if standsB (seeVer x.writes (versOf R.hist key) x.began key) = true then some (key, ((seeVer x.writes (versOf R.hist key) x.began key).getD Ver.zero).value) else none := rfl
      generalize ((seeVer x.writes (versOf R.hist key) x.began key).getD Ver.zero).value = val at hsee hsv
      have HLT := hid hlt
      clear q1 q2 q3 q4 bk hSW hm hseq h0
      by_cases hbr : (m : Int) = most
      · have hbq : ((m : Int) == most) = true := beq_iff_eq.2 hbr
        have HBR := hid hbr
        clear hbr
        gi_wp2
        refine ⟨KeepsFrom.refl _ _, pre, key, rfl, ⟨_, HQ1.out, by rw [← HM.out]; exact HQ2.out, HQ3.out, HQ4.out⟩, by rw [← HM.out]; exact HBR.out, rfl⟩
      have hne1 : ((m : Int) == most) = false := beq_eq_false_iff_ne.2 hbr
      have HIM : Hid (most < 0 ∨ ((m + 1 : Nat) : Int) ≤ most) := by
        show _ ∨ _
        omega
      clear hbr
      cases hst : standsB (seeVer x.writes (versOf R.hist key) x.began key) with
      | false =>
        rw [hst] at hsee hsv
        simp only [Bool.false_eq_true, if_false] at hsv
        have HSEE := hid hsee
        have HSV := hid hsv
        clear hsee hsv hst
        gi_wp2_with (refine ⟨trivial, ?_⟩; gi_at_call 101; go_must (refine (CallsIn.inRound l (callsIn_wide.2 HSEE.out)).mono ?_; rintro e W1 ⟨rfl, k1⟩))
        have epre : (pre ++ [key]).filterMap (pairOf x.writes (versOf R.hist) x.began) = pre.filterMap (pairOf x.writes (versOf R.hist) x.began) := by simp [List.filterMap_append, HSV.out]
        refine scan_goesOnX _ hpB HL.out HQ2.out HQ3.out HQ4.out (k1.mono (fun _ _ h => h.elim)) ((k1.block _ (Array.getElem?_eq_some_iff.1 HQ1.out).1 (fun h => h)).trans HQ1.out) ?_ HQ3.out (by rw [epre, ← HM.out]; exact hIm)
        rw [epre, ← HM.out]
        exact HQ2.out.kept k1 (fun _ _ h => h)
      | true =>
        rw [hst] at hsee hsv
        simp only [if_true] at hsv
        have HSEE := hid hsee
        have HSV := hid hsv
        clear hsee hsv hst
        obtain ⟨i0, hi, hz0, hz1, hz2⟩ := info_parts Tryz.infoPair
        have HAPP : Hid (∀ W1, Keeps (fun _ => False) W W1 → ∃ g' cap' w', (Builtin.append_ #[55, 55] 55 #[.slice av m cv, .slice (some ⟨W1.heap.size, 0, none⟩) 1 1]).run Tryz.prog (W1.alloc (.cells #[.string key, .string val] 90)) = .ok (.slice (some ⟨g', 0, none⟩) (m + 1) cap') w' ∧
            ScanNew W m av cv (w.heap.size + 1 + 1 + 1) w5 g' cap' w' ((pre.filterMap (pairOf x.writes (versOf R.hist) x.began)).flatMap pairCells ++ [.string key, .string val])) := fun W1 k1 => by
          obtain ⟨v', w', r1, r2, r3, r4, r5⟩ := run_append_row (P := Tryz.prog) (W1.alloc (.cells #[.string key, .string val] 90)) 55 55 90 i0 (.agg #[.string ⟨#[]⟩, .string ⟨#[]⟩]) 2 32 Tryz.underlying55 hi hz0 hz1 hz2 rfl (.slice av m cv) m _ ((HQ2.out.kept k1 (fun _ _ h => h)).kept (Keeps.alloc (fun _ => False) _ _) (fun _ _ h => h)) ⟨W1.heap.size, 0, none⟩ 1 1 [.string key, .string val] rfl (pair_new _ _ _ _) (by simp [Value.oneCell']) (by unfold maxLen; omega) (by omega)
          obtain ⟨g', cap', rfl⟩ := r2.succ
          exact ⟨g', cap', w', r1, scan_new k1 HQ1.out HQ3.out HQ4.out r2 r3 r5 hpB⟩
        have Z0 := hid hi
        clear hi hz0 hz1 hz2 Z0
        gi_wp2_with (first | (gi_at_builtin; refine wpListIn_append_run _ rfl _ _ 55 rfl _ _ _ _ rfl rfl HRUN.out ?_) | (refine ⟨trivial, ?_⟩; gi_at_call 101; go_must (refine (CallsIn.inRound l (callsIn_wide.2 HSEE.out)).mono ?_; rintro e W1 ⟨rfl, k1⟩; have d11 := k1.cell (p := ⟨w.heap.size + 1 + 1 + 1, 0, none⟩) c11 (fun h => h); obtain ⟨g', cap', w', hrun, hnew⟩ := HAPP.out W1 k1; have e11 := cell_of_heap hnew.box 0; have f11 := frozen_of_heap hnew.box 0; simp at e11; have HNEW := hid hnew; have HRUN := hid hrun; clear hnew HAPP hrun)))
        have epre : (pre ++ [key]).filterMap (pairOf x.writes (versOf R.hist) x.began) = pre.filterMap (pairOf x.writes (versOf R.hist) x.began) ++ [(key, val)] := by simp [List.filterMap_append, HSV.out]
        refine scan_goesOnX _ hpB HL.out HQ2.out HQ3.out HQ4.out HNEW.out.keep (heap_setCell_same HNEW.out.box _) ?_ HNEW.out.own (by rw [epre, List.length_append, ← HM.out]; exact HIM.out)
        rw [epre]
        have := HNEW.out.row
        simpa [HM.out, List.flatMap_append, pairCells] using this
    case done =>
      rintro D xs W hD hS hI hK
      obtain ⟨⟨v, q1, q2, q3, q4⟩, hIm⟩ := hI
      have c11 := cell_of_heap q1 0
      simp at c11
      obtain ⟨av, cv, rfl, hmx, -⟩ := q2.form
      have HQ := hid (And.intro q1 (And.intro q2 (And.intro q3 q4)))
      have HS := hid hS
      have HK := hid hK
      clear q1 q2 q3 q4 hS hK hseq h0
      gi_wp2
      refine ⟨by simp, .inl ⟨_, _, rfl, run_takeDeferred HK.out, ?_⟩⟩
      refine ⟨_, results_tmp2 rfl _ _ _, ?_⟩
      obtain ⟨q1, q2, q3, q4⟩ := HQ.out
      have kp := Keeps.grown (grownBy_putObj' W D (.deferred none))
      refine ⟨_, xs, ks, rfl, H24.out.2, H24.out.1, by rw [← HLA.out.1, ← HLA.out.2]; exact HS.out, row_eq (takeM_all hIm) (q2.kept kp (fun g hg e => ?_)), fun g hg => ?_, ?_⟩
      · obtain ⟨cur, hcur⟩ := q2.cellsAt hg
        simp only [Option.some.injEq] at e
        rw [e, HK.out] at hcur
        cases hcur
      · have := q3 g hg
        omega
      · have k1 : Keeps (fun _ => False) w W := (HKS.out.tr HK35.out (fun _ h => h)).trans q4 (fun k hk e => by rcases e with e | e | e <;> omega)
        refine k1.trans kp (fun k hk e => ?_)
        simp only [Option.some.injEq] at e
        omega
    case stop =>
      rintro D c xs W hD hS hI hK
      obtain ⟨pre, key, rfl, ⟨v, q1, q2, q3, q4⟩, hIm, rfl⟩ := hI
      obtain ⟨a', b', hS'⟩ := hS
      obtain ⟨rest, hS⟩ := merge_whole _ _ _ _ (Nat.le_refl _) hS'
      clear hS'
      have c11 := cell_of_heap q1 0
      simp at c11
      obtain ⟨av, cv, rfl, hmx, -⟩ := q2.form
      have HQ := hid (And.intro q1 (And.intro q2 (And.intro q3 q4)))
      have HS := hid hS
      have HK := hid hK
      clear q1 q2 q3 q4 hS hK hseq h0
      gi_wp2
      refine ⟨by simp, .inl ⟨_, _, rfl, run_takeDeferred HK.out, ?_⟩⟩
      refine ⟨_, results_tmp2 rfl _ _ _, ?_⟩
      obtain ⟨q1, q2, q3, q4⟩ := HQ.out
      have kp := Keeps.grown (grownBy_putObj' W D (.deferred none))
      refine ⟨_, pre ++ [key] ++ rest, ks, rfl, H24.out.2, H24.out.1, by rw [← HLA.out.1, ← HLA.out.2]; exact HS.out, row_eq (by rw [List.append_assoc, List.filterMap_append, takeM_more hIm]) (q2.kept kp (fun g hg e => ?_)), fun g hg => ?_, ?_⟩
      · obtain ⟨cur, hcur⟩ := q2.cellsAt hg
        simp only [Option.some.injEq] at e
        rw [e, HK.out] at hcur
        cases hcur
      · have := q3 g hg
        omega
      · have k1 : Keeps (fun _ => False) w W := (HKS.out.tr HK35.out (fun _ h => h)).trans q4 (fun k hk e => by rcases e with e | e | e <;> omega)
        refine k1.trans kp (fun k hk e => ?_)
        simp only [Option.some.injEq] at e
        omega
  have HREST := hid hrest
  clear hrest
  refine wpIn_normal ?_
  gi_region_with (first
    | (refine ⟨trivial, ?_⟩; gi_at_call 106; go_must (refine (callsIn_wide.2 (HKEYS.out _ HKW.out.dr)).mono ?_; rintro e w2 ⟨v2, rfl, sg2, k2⟩; obtain ⟨oa, ca, rfl⟩ := sg2.form; have b2 := (Keeps.drew (fun _ => False) _).tr k2 (fun _ h => h); have c10 := b2.cell (p := ⟨w.heap.size + 1 + 1, 0, none⟩) (v := .pointer (some ⟨x.blk, 0, none⟩)) (by simp [go_sem]) (fun h => h)))
    | (refine ⟨trivial, ?_⟩; gi_at_call 107; go_must (refine (callsIn_wide.2 (HWK.out _ (HKW.out.tr b2 (fun _ h => h)))).mono ?_; rintro e w3 ⟨v3, ks, LB, Gb, rfl, hLB, r3, rs3, p3, k3, o3⟩; obtain ⟨ob, cb, rfl⟩ := r3.form))
    | (refine ⟨trivial, ?_⟩; gi_at_call 105; go_must (refine (callsIn_wide.2 (merged_any _ _ _ _ _ _ _)).mono ?_; rintro e w4 ⟨rfl, rfl⟩)))
  all_goals exact HREST.out w3 oa ob ca cb LA LB ks Gb (b2.tr k3 (fun _ h => h)) HLAQ.out hLB.out (sg2.kept (fun k hk => k3.block k (Nat.lt_of_lt_of_le (fp_lt HST.out k (by simp only [Rep.fp, Rep.fpPast, List.mem_cons, List.mem_append]; exact .inr (.inr (.inl (.inl hk))))) (HKW.out.tr b2 (fun _ h => h)).size) (fun h => h))) r3 rs3 p3 (fun k hk => ⟨by have := (o3 k hk).1; have := b2.size; simp at this; omega, (o3 k hk).2⟩)

end Go.Proofs.YtfcocbcihhdbkaaGreatDoor
