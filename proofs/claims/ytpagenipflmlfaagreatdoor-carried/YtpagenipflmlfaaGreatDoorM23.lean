import Derived.Test.YtpagenipflmlfaaGreatDoorM22
import Derived.RangeFuncWrites
import Derived.Sort.AtCallIn
import Derived.Stop.RegionWithIn

/- Pin of a store that has none; Unpin. -/

namespace Go.Proofs.YtpagenipflmlfaaGreatDoor

open Go.RowKit Go.Shelf

set_option maxRecDepth 100000 in
set_option maxHeartbeats 1000000 in
theorem pin_new (R : Rep) (s : Int) (w : World) (h : StoreAt w R) (hpm : R.pm = none) (hs : (decide (R.floor ≤ s) && decide (s ≤ R.now)) = true) :
    Calls Tryz.prog 7 #[.pointer (some ⟨R.sb, 0, none⟩), .int .i64 s] w fun e w' => e = .returned (.int .i64 0) ∧ R.pins = [] ∧ PinPost R [(s, 1)] w w' := by
  have hmf : ∀ (fn : Fn) (first cap : Array Value) (w : World), (Instr.makeFunc fn first cap).run Tryz.prog w = .ok (.func fn first cap) w := fun _ _ _ _ => rfl
  have hmm := @run_makeMap Tryz.prog
  have hem := eqMapP_none
  have hpins : R.pins = [] := by
    have := h.works.pinsMap
    rw [hpm] at this
    have h2 : (R.pins.map fun p => (p.1, Value.int .i64 p.2)) = [] := this
    simpa using h2
  have hk0 : Keeps (fun _ => False) w ((w.alloc (.cells #[.int .i64 0] 34)).alloc (.cells #[.slice none 0 0] 69)) := ((Keeps.refl (fun _ => False) w).al _).al _
  have hW := h.kept hk0 (fun _ _ h => h)
  have hh := has_any R s _ hW
  rw [hs] at hh
  have HH := hid hh
  have hlt := h.lt
  have c4 : w.cell? ⟨R.sb, 4, none⟩ = some (.map none) := (h.cell 4).trans (by rw [← hpm]; rfl)
  have hWm := hW.kept (Keeps.alloc (fun _ => False) _ (.map #[] 0)) (fun _ _ h => h)
  have HAS := hid (assign_pins (w.heap.size + 1) [] [w.heap.size + 1] R.sb 4 none (some (w.heap.size + 1 + 1)) _ ((chg_new w (.cells #[.int .i64 0] 34)).kept (Keeps.alloc (fun _ => False) _ (.map #[] 0)) (fun _ _ h => h)) ((hWm.cell 4).trans (by rw [← hpm]; rfl)) (hWm.frozen 4) (by simp; omega) (by simp))
  have HST := hid h
  have HPM := hid hpm
  have HPINS := hid hpins
  have HWM := hid hWm
  clear hs h hh hpm hW hk0 hpins hWm
  go_enter_defers Tryz.func7, Tryz.ntmps7
  go_wp2_with (first
    | (go_at_call 27; go_must (refine (HH.out).mono ?_; rintro e w1 ⟨rfl, rfl⟩))
    | (go_at_call 28; go_must (refine (HAS.out).mono ?_; rintro e w0 ⟨rfl, fs0, C0, hf0, hC0, hk0, hC0', hb0⟩; have HB0 := hid hb0; clear hb0)))
  have hflt := fp_lt HST.out
  have HC0 : Hid (∀ k ∈ C0, k ∉ R.fp ∧ w.heap.size < k ∧ k ≠ w.heap.size + 1 + 1 ∧ k < w0.heap.size) := fun k hk => by
    have hl0 := hC0.lt k hk
    rcases hC0' k hk with h' | h'
    · simp at h'
      exact ⟨fun hf => by have := hflt k hf; omega, by omega, by omega, hl0⟩
    · simp at h'
      exact ⟨fun hf => by have := hflt k hf; omega, by omega, by omega, hl0⟩
  have hq0 : MapAt (Value.int .i64) (((w.alloc (.cells #[.int .i64 0] 34)).alloc (.cells #[.slice none 0 0] 69)).alloc (.map #[] 0)) (w.heap.size + 1 + 1) [] := by
    have := MapAt.made (Value.int .i64) ((w.alloc (.cells #[.int .i64 0] 34)).alloc (.cells #[.slice none 0 0] 69))
    simpa using this
  have hqf : w.heap.size + 1 + 1 ∉ R.fp := fun hf => by have := hflt _ hf; omega
  have HS0 := hid (HWM.out.pinsMade HPM.out hk0 (fun k hk hf => by have := hflt k hf; simp at hk; omega) hq0 (by simp) hqf HB0.out)
  have hz0 : w.heap.size + 3 ≤ w0.heap.size := by have := hk0.size; simp at this; omega
  have hm0 : MapAt (Value.int .i64) w0 (w.heap.size + 1 + 1) ([] : List (Int × Value)) := by
    have := HS0.out.works.pinsMap
    rw [HPINS.out] at this
    exact this
  have d4 : w0.cell? ⟨R.sb, 4, none⟩ = some (.map (some (w.heap.size + 1 + 1))) := HS0.out.cell 4
  have hlk := (hm0.kept (Keeps.drew (fun _ => False) _) (fun h => h)).lookup (P := Tryz.prog) (t := 59) intKeyOk Tryz.underlying59 Tryz.underlying3 (Tryz.zeroIntV _) s false
  simp only [Bool.false_eq_true, if_false, look, Option.getD_none] at hlk
  have HE := hid (enter_pin (w.heap.size + 1) fs0 C0 (w.heap.size + 1 + 1) s [] 0 1 w0.drew (hC0.kept (Keeps.drew (fun _ => False) _) (fun _ _ h => h)) (hm0.kept (Keeps.drew (fun _ => False) _) (fun h => h)) rfl (fun hc => (HC0.out _ hc).2.2.1 rfl) (by rw [hf0]; simp))
  have HKW : Hid (Keeps (fun k => k = R.sb) w w0) := (((Keeps.refl (fun k => k = R.sb) w).al _).al _).al _ |>.trans hk0 (fun k hk h => by
    rcases h with h | h
    · simp at h; omega
    · exact h)
  have HE00 : Hid (w0.heap[w.heap.size]? = some (.cells #[.int .i64 0] 34 (0, 0))) := by
    rw [hk0.block w.heap.size (by simp; omega) (by rintro (hc | hc); (simp at hc); omega)]
    exact (Below.heap_alloc _ _ _ (by simp; omega)).trans ((Below.heap_alloc _ _ _ (by simp)).trans (heap_new w _))
  clear hm0 hq0 hk0 hC0 c4 HAS
  go_wp2_with fail
  go_region_held3 (fun W => W.cell? ⟨R.sb, 4, none⟩ = some (.map (some (w.heap.size + 1 + 1)))) (go_keep) (first | (go_at_call 29; refine (HE.out).mono ?_; rintro e w2 ⟨rfl, fs2, C2, hf2, hC2, hk2, hC2', hm2⟩; have q4 := hk2.cell (p := ⟨R.sb, 4, none⟩) ((Keeps.drew (fun _ => False) w0).cell (p := ⟨R.sb, 4, none⟩) d4 (fun h => h)) (by rintro (e | e); exact (HC0.out _ e).1 (by simp [Rep.fp]); (have e' : R.sb = w.heap.size + 1 + 1 := e; omega))))
  have hE0 : w2.heap[w.heap.size]? = some (.cells #[.int .i64 0] 34 (0, 0)) := by
    rw [hk2.block w.heap.size (by show _ < w0.heap.size; omega) (by rintro (hc | hc); exact absurd (HC0.out _ hc).2.1 (by omega); omega)]
    exact HE00.out
  have y0 : w2.cell? ⟨w.heap.size, 0, none⟩ = some (.int .i64 0) := cell_of_heap hE0 0
  have y1 : w2.frozen? ⟨w.heap.size, 0, none⟩ = false := frozen_of_heap hE0 0
  have HE0 := hid hE0
  have HM2 := hid hm2
  have HK2 := hid hk2
  clear hE0 hm2 hk2 hlk d4
  go_wp2
  refine leaves_cons (f := 25) (args := #[.pointer (some ⟨w.heap.size + 1, 0, none⟩), .pointer (some ⟨w.heap.size, 0, none⟩)]) (by simp) (by simp [go_sem]) ?_
  have hE1 := heap_setCell_same (i := 0) HE0.out (.int .i64 0)
  refine (pin1_ok (w.heap.size + 1) w.heap.size _ ?_).mono ?_
  · exact cell_of_heap hE1 0
  rintro e u' w'' ⟨rfl, rfl, rfl⟩
  have hpost : PinPost R [(s, 1)] w (w2.setCell ⟨w.heap.size, 0, none⟩ (.int .i64 0)) := by
    have hfq : ∀ k ∈ Rep.fp { R with pm := some (w.heap.size + 1 + 1) }, k ∈ R.fp ∨ k = w.heap.size + 1 + 1 := fun k hk => by
      rcases List.mem_cons.1 ((fp_pm HPM.out _).mem_iff.1 hk) with e | h
      · exact .inr e
      · exact .inl h
    have s1 := (HS0.out.kept (Keeps.drew (fun _ => False) _) (fun _ _ h => h)).pinned (b := w.heap.size + 1 + 1) (pins := [(s, 1)]) rfl HK2.out (fun k hk hf => by
      obtain ⟨a1, a2, a3, a4⟩ := HC0.out k hk
      rcases hfq k hf with h | h
      · exact a1 h
      · exact a3 h) HM2.out
    refine ⟨some (w.heap.size + 1 + 1), s1.kept (Keeps.setCell _ _ _) (fun k hk e => ?_), ?_, .inr ⟨_, rfl, by omega⟩⟩
    · have e' : k = w.heap.size := e
      rcases hfq k hk with h | h
      · have := fp_lt HST.out k h
        omega
      · omega
    · refine ((HKW.out.mono (T := (· ∈ R.fp)) (fun k _ h => by rw [h]; simp [Rep.fp])).trans ((Keeps.drew (fun _ => False) w0).mono (T := fun k => k ∈ C0 ∨ k = w.heap.size + 1 + 1) (fun _ _ h => h.elim) |>.tr HK2.out (fun _ h => h)) (fun k hk h => ?_)).st (.inl (Nat.le_refl _)) _
      rcases h with h | h
      · have := (HC0.out k h).2.1; omega
      · omega
  have hb := cell_of_heap hE1 0
  generalize w2.setCell ⟨w.heap.size, 0, none⟩ (.int .i64 0) = W3 at hpost hb
  simp at hb
  simp [Leaves, settle, results, Tryz.results7, go_sem, hb]
  exact ⟨HPINS.out, hpost⟩

end Go.Proofs.YtpagenipflmlfaaGreatDoor

/- A range over an iterator that keeps its place in cells of its own, whose rounds may say that it is enough; merged so. -/

namespace Go.Proofs.YtpagenipflmlfaaGreatDoor

open Go.RowKit Go.Shelf

attribute [local go_sem] Oper.semAt_some

section

variable {F : Fence} {n : Nat} {P : Program}

/-- The iterator calls yield for each of xs with S xs, in order, if every round goes on; it may write as C allows, a round keeps Kp. -/
def SeqEnd {α : Type} (F : Fence) (n : Nat) (P : Program) (g : Nat) (lb : Array Value) (encs : α → Array Value) (C Kp : World → World → Prop) (S Sp : List α → Prop) (N : Nat) (w : World) : Prop :=
  ∀ (l : Nat) (J Jx : List α → World → Prop) (W : World), Keeps (fun _ => False) w W → (∀ pre A B, C A B → J pre A → J pre B) →
    (∀ pre x W1, J pre W1 → pre.length < N → YieldAt F (n - 1) P l (encs x) W1 fun e W' => (e = .returned (.bool true) ∧ J (pre ++ [x]) W' ∧ Kp W1 W') ∨ (e = .returned (.bool false) ∧ Jx (pre ++ [x]) W')) →
    J [] W → CallsIn F n P g (#[.func (.yield l) #[] #[]] ++ lb) W fun e W' => (∃ v, e = .returned v) ∧ ((∃ xs, S xs ∧ J xs W') ∨ ∃ xs, Sp xs ∧ Jx xs W')

/-- what a round leaves: it goes on, or it is enough -/
def goesOnX {α : Type} (B : Nat) (Kp : World → World → Prop) (I : List α → World → Prop) (Ix : Code → List α → World → Prop) (xs : List α) (W : World) : Exit → Act → World → Prop
  | .normal, _, W' => KeepsFrom B W W' ∧ Kp W W' ∧ I xs W'
  | .exit id, _, W' => KeepsFrom B W W' ∧ Ix (.exit id) xs W'
  | _, _, _ => False

theorem wpIn_range_end {α : Type} {g : Operand} {ps : Array Tmp} {assign body : Code} {Q : Exit → Act → World → Prop} {a : Act} {w : World} (hro : F.round = none) (h1 : 1 ≤ n) {gf : Nat} {lb : Array Value}
    (hg : a.eval g = .func (.func gf) #[] lb) (hFg : F.fn gf) (eg : ∀ args w, (callFunc gf args).run P w = .ok (.enter gf args) w) {encs : α → Array Value} {C Kp : World → World → Prop} {S Sp : List α → Prop} {N : Nat}
    (hseq : SeqEnd F (n - 1) P gf lb encs C Kp S Sp N w) (hCs : ∀ A B k, C A B → w.heap.size ≤ k → (∃ o, A.heap[k]? = some o ∧ o.isCells = false) → B.heap[k]? = A.heap[k]?)
    (hKt : ∀ {A B D : World}, Kp A B → Kp B D → Kp A D) (hKb : ∀ (W : World) (l : Nat) (o' : Obj), w.heap.size ≤ l → Kp W (W.putObj l o')) (hps : ∀ x, (encs x).size = ps.size)
    (I : List α → World → Prop) (Ix : Code → List α → World → Prop) (hI : OwnFrom w.heap.size I) (hIx : ∀ c, OwnFrom w.heap.size (Ix c)) (hIC : ∀ pre A B, C A B → I pre A → I pre B) (h0 : I [] w) (a₁ : α → Act)
    (hassign : ∀ (l : Nat) (x : α) (W : World) (K : Act → World → Prop), K (a₁ x) W → assign.wpIn (F.inRound l) (n - 1 - 1) P (Exit.then K (fun _ _ _ => False)) { tmps := (ps.zip (encs x)).foldl (fun t (p, v) => t.setIfInBounds p v) a.tmps, defers := [] } W)
    (hbody : ∀ (l : Nat) (pre : List α) (x : α) (W : World), I pre W → pre.length < N → body.wpIn (F.inRound l) (n - 1 - 1) P (goesOnX w.heap.size Kp I Ix (pre ++ [x]) W) (a₁ x) W)
    (hdone : ∀ (D : Nat) (xs : List α) (W : World), w.heap.size ≤ D → S xs → I xs W → W.heap[D]? = some (.deferred (some [])) → Q .normal { a with defers := { target := .collected D, args := #[] } :: a.defers } W)
    (hstop : ∀ (D : Nat) (c : Code) (xs : List α) (W : World), w.heap.size ≤ D → Sp xs → Ix c xs W → W.heap[D]? = some (.deferred (some [])) → c.wpIn F n P Q { a with defers := { target := .collected D, args := #[] } :: a.defers } W) :
    (Code.rangeFunc g ps assign body).wpIn F n P Q a w := by
  refine wpIn_rangeFunc ?_
  intro fn hfn
  rw [hro]
  obtain ⟨rec, hrec⟩ : ∃ rec : LoopState → Option Code → Loop, rec = fun st pe => { state := st, pending := pe, fn, tmps := a.tmps, params := ps, assign, body, defers := w.heap.size } := ⟨_, rfl⟩
  obtain ⟨W1, hW1⟩ : ∃ W1, (w.alloc (.deferred (some []))).alloc (.loop (rec .ready none)) = W1 := ⟨_, rfl⟩
  have hkw : Keeps (fun _ => False) w W1 := by rw [← hW1]; exact ((Keeps.refl _ w).al _).al _
  have hL1 : W1.heap[w.heap.size + 1]? = some (.loop (rec .ready none)) := by
    rw [← hW1]; have := heap_new (w.alloc (.deferred (some []))) (.loop (rec .ready none)); rwa [World.size_alloc] at this
  have hD1 : W1.heap[w.heap.size]? = some (.deferred (some [])) := by
    rw [← hW1]; exact (Below.heap_alloc _ _ _ (by simp)).trans (heap_new w _)
  have hI1 : I [] W1 := by rw [← hW1]; exact hI.alloc _ (hI.alloc _ h0)
  refine ⟨w.heap.size + 1, [{ target := .collected w.heap.size, args := #[] }], W1, { target := .fn (.func gf) lb, args := #[.func (.yield (w.heap.size + 1)) #[] #[]] }, W1, gf,
    #[.func (.yield (w.heap.size + 1)) #[] #[]] ++ lb, W1, ?_, ?_, ?_, ?_, fun _ => h1, ?_⟩
  · rw [← hW1, hrec]; exact run_enterLoop_outer _ _ _ _ _
  · simp only [resolve, hg]
    simp [go_sem]
  · intro f' hf'; simp [Target.leads] at hf'; subst hf'; exact hFg
  · simp [invoke, go_sem, eg]
  · refine (hseq (w.heap.size + 1) (fun pre W => I pre W ∧ W.heap[w.heap.size + 1]? = some (.loop (rec .ready none)) ∧ W.heap[w.heap.size]? = some (.deferred (some [])))
      (fun pre W => ∃ c, Ix c pre W ∧ W.heap[w.heap.size + 1]? = some (.loop (rec .done (some c))) ∧ W.heap[w.heap.size]? = some (.deferred (some []))) W1 hkw
      (fun pre A B hC hJ => ⟨hIC pre A B hC hJ.1, (hCs A B _ hC (by omega) ⟨_, hJ.2.1, rfl⟩).trans hJ.2.1, (hCs A B _ hC (Nat.le_refl _) ⟨_, hJ.2.2, rfl⟩).trans hJ.2.2⟩) ?_ ⟨hI1, hL1, hD1⟩).mono ?_
    · rintro pre x W ⟨hi, hl, hk⟩ hlen
      have hlt : w.heap.size + 1 < W.heap.size := (Array.getElem?_eq_some_iff.1 hl).1
      have hy := run_yield (P := P) (args := encs x) hl (by rw [hrec]; exact hps x)
      rw [hrec] at hy
      refine ⟨fn, _, assign, body, hy, roundIn_of_wpIn hfn (hassign _ x W _ ⟨_, run_beginRound hl (by rw [hrec]), ?_⟩)⟩
      have hl2 : (W.putObj (w.heap.size + 1) (.loop { rec .ready none with state := .busy })).heap[w.heap.size + 1]? = some (.loop { rec .ready none with state := .busy }) := World.putObj_heap_same hlt
      have hk2 : (W.putObj (w.heap.size + 1) (.loop { rec .ready none with state := .busy })).heap[w.heap.size]? = some (.deferred (some [])) := (World.putObj_heap_other (by omega)).trans hk
      refine wpIn_mono (hbody _ pre x _ (hI.putObj _ hi (by omega) hl rfl) hlen) ?_
      rintro e a3 W3 hp
      cases e with
      | normal =>
        obtain ⟨hk3, hkp3, hi3⟩ := hp
        have hl3 := hk3.same _ _ (by omega) hl2 rfl
        have hr := run_endRound (P := P) none hl3
        have hl3' : W3.heap[w.heap.size + 1]? = some (.loop { rec .ready none with state := .busy }) := hl3
        rw [hrec] at hr
        refine ⟨_, _, hr, .inl ⟨rfl, ⟨hI.putObj _ hi3 (by omega) hl3' rfl, ?_, ?_⟩, hKt (hKt (hKb _ _ _ (by omega)) hkp3) (hKb _ _ _ (by omega))⟩⟩
        · rw [hrec]; exact World.putObj_heap_same (Array.getElem?_eq_some_iff.1 hl3).1
        · exact (World.putObj_heap_other (by omega)).trans (hk3.same _ _ (Nat.le_refl _) hk2 rfl)
      | ret => exact hp.elim
      | exit id =>
        obtain ⟨hk3, hi3⟩ := hp
        have hl3 := hk3.same _ _ (by omega) hl2 rfl
        have hr := run_endRound (P := P) (some (.exit id)) hl3
        have hl3' : W3.heap[w.heap.size + 1]? = some (.loop { rec .ready none with state := .busy }) := hl3
        rw [hrec] at hr
        refine ⟨_, _, hr, .inr ⟨rfl, .exit id, (hIx _).putObj _ hi3 (by omega) hl3' rfl, ?_, ?_⟩⟩
        · rw [hrec]; exact World.putObj_heap_same (Array.getElem?_eq_some_iff.1 hl3).1
        · exact (World.putObj_heap_other (by omega)).trans (hk3.same _ _ (Nat.le_refl _) hk2 rfl)
      | goto t => exact hp.elim
      | panic ch => exact hp.elim
      | outgrown => exact hp.elim
    · rintro e W2 ⟨⟨v, rfl⟩, (⟨xs, hS, hi, hl, hk⟩ | ⟨pre, hSp, c, hi, hl, hk⟩)⟩
      rotate_left
      · exact ⟨some c, _, by have := run_endLoop (P := P) hl (by rw [hrec]; simp); rw [hrec] at this; exact this, hstop _ c pre _ (Nat.le_refl _) hSp ((hIx c).putObj _ hi (by omega) hl rfl) ((World.putObj_heap_other (by omega)).trans hk)⟩
      exact ⟨none, _, by have := run_endLoop (P := P) hl (by rw [hrec]; simp); rw [hrec] at this; exact this, hdone _ xs _ (Nat.le_refl _) hS (hI.putObj _ hi (by omega) hl rfl) ((World.putObj_heap_other (by omega)).trans hk)⟩

end

set_option maxRecDepth 100000 in
set_option maxHeartbeats 1000000 in
theorem merged1_end (G : List Nat) (pa pb : Nat) (a b : List ByteArray) (w : World) (hpa : pa ∉ G) (hpb : pb ∉ G) (hne : pa ≠ pb) (hG : ∀ k ∈ G, k < w.heap.size) (h : MergeMem G pa pb a b [] w) :
    SeqEnd Fence.wide 7 Tryz.prog 89 #[.pointer (some ⟨pa, 0, none⟩), .pointer (some ⟨pb, 0, none⟩)] (fun x : ByteArray => #[.string x]) (Keeps (fun k => k = pa ∨ k = pb)) (KpM (pa :: pb :: G)) (fun xs => MergeAt a b [] [] xs) (fun xs => ∃ a' b', MergeAt a b a' b' xs) (a.length + b.length) w := by
  intro l J Jx W hW hJC hY h0
  have hM0 : MergeMem G pa pb a b [] W := by
    obtain ⟨va, vb, a', b', h1, h2, h3, h4, h5⟩ := h
    have hk : ∀ k ∈ G, W.heap[k]? = w.heap[k]? := fun k hk => hW.block k (hG k hk) (fun h => h)
    exact ⟨va, vb, a', b', (hW.block pa (Array.getElem?_eq_some_iff.1 h1).1 (fun h => h)).trans h1, (hW.block pb (Array.getElem?_eq_some_iff.1 h2).1 (fun h => h)).trans h2, h3.kept hk, h4.kept hk, h5⟩
  refine callsIn_of_wp Tryz.func89 rfl trivial ?_ rfl
  simp only [Tryz.ntmps89, List.size_toArray, List.length_cons, List.length_nil, Nat.reduceAdd, Nat.reduceSub, Array.replicate_succ, Array.replicate_zero, List.push_toArray, List.append_toArray, List.nil_append, List.cons_append]
  gi_wp2
  gi_loopw [4] (fun _ wr => ∃ pre, J pre wr ∧ MergeMem G pa pb a b pre wr ∧ ∀ k ∈ G, k < wr.heap.size) (fun _ wr => boxLen wr pa + boxLen wr pb)
  case atStart => exact ⟨[], h0, hM0, fun k hk => Nat.lt_of_lt_of_le (hG k hk) hW.size⟩
  case round =>
    obtain ⟨pre, hJ, ⟨va, vb, a', b', h1, h2, h3, h4, h5⟩, hGr⟩ := hrel
    clear hM0 h0 h hW
    obtain ⟨oa, ca, rfl⟩ := h3.form
    obtain ⟨ob, cb, rfl⟩ := h4.form
    by_cases hne' : a' = [] ∧ b' = []
    · obtain ⟨rfl, rfl⟩ := hne'
      have c1 := cell_of_heap h1 0
      have c2 := cell_of_heap h2 0
      have HJ := hid hJ
      have H5 := hid h5
      simp at c1 c2
      clear h1 h2 h3 h4 h5 hJ hJC hY
      gi_wp2
      go_end0
      exact ⟨⟨_, rfl⟩, .inl ⟨pre, H5.out, HJ.out⟩⟩
    · have hne2 : a' ≠ [] ∨ b' ≠ [] := by
        by_cases e : a' = []
        · exact .inr (fun e2 => hne' ⟨e, e2⟩)
        · exact .inl e
      have HLE := hid (least_any _ _ a' b' wr h3 h4 hne2)
      have HST := hid (h5.step hne2)
      have HLS := hid (merge_less a' b' hne2)
      have HLN : Hid (pre.length < a.length + b.length) := by
        have h8 := h5.len
        have h9 := merge_less a' b' hne2
        show _ < _
        omega
      generalize leastL a' b' = key at HLE HST HLS
      have c1 := cell_of_heap h1 0
      have c2 := cell_of_heap h2 0
      simp at c1 c2
      have H1 := hid h1
      have H2 := hid h2
      have H3 := hid h3
      have H4 := hid h4
      have HJ := hid hJ
      have HJC := hid hJC
      have HY := hid hY
      have hcase : (0 < a'.length) ∨ (a'.length = 0 ∧ 0 < b'.length) := by
        rcases Nat.eq_zero_or_pos a'.length with e | e
        · right
          refine ⟨e, ?_⟩
          have : b'.length ≠ 0 := fun e2 => hne' ⟨List.eq_nil_of_length_eq_zero e, List.eq_nil_of_length_eq_zero e2⟩
          omega
        · left; exact e
      have HGL : Hid (∀ k ∈ G, k < wr.heap.size) := hGr
      clear h1 h2 h3 h4 h5 hJ hJC hY hne' hne2 hGr
      generalize hna : a'.length = na at HLE H1 H2 H3 H4 c1 c2 hcase
      have HNA := hid hna
      clear hna
      rcases hcase with hca | ⟨hca, hcb⟩
      · gi_wp2_with (refine ⟨trivial, ?_⟩; gi_at_call 90; go_must (refine (callsIn_wide.2 HLE.out).mono ?_; rintro e w1 ⟨rfl, k1⟩; have d1 := (k1.block pa (Array.getElem?_eq_some_iff.1 H1.out).1 (fun h => h)).trans H1.out; have d2 := (k1.block pb (Array.getElem?_eq_some_iff.1 H2.out).1 (fun h => h)).trans H2.out; have e1 := cell_of_heap d1 0; have e2 := cell_of_heap d2 0; have f1 := frozen_of_heap d1 0; have f2 := frozen_of_heap d2 0; simp at e1 e2; have D1 := hid d1; have D2 := hid d2; have K1 := hid k1; clear d1 d2 k1 c1 c2))
        obtain ⟨va2, hva2⟩ : ∃ v, v = behindV (.slice oa na ca) (hitB a' key) := ⟨_, rfl⟩
        obtain ⟨vb2, hvb2⟩ : ∃ v, v = behindV (.slice ob b'.length cb) (hitB b' key) := ⟨_, rfl⟩
        have hGk : ∀ k ∈ G, w1.heap[k]? = wr.heap[k]? := fun k hk => K1.out.block k (HGL.out k hk) (fun h => h)
        have S3 := hid (H3.out.kept hGk)
        have S4 := hid (H4.out.kept hGk)
        have HBA : Hid (∀ W, (∀ k ∈ G, W.heap[k]? = w1.heap[k]?) → Calls Tryz.prog 91 #[.slice oa na ca, .string key] W fun e w' => e = .returned va2 ∧ w' = W) := fun W hk => by have := behind_any _ key a' W (S3.out.kept hk); rwa [← hva2] at this
        have HBB : Hid (∀ W, (∀ k ∈ G, W.heap[k]? = w1.heap[k]?) → Calls Tryz.prog 91 #[.slice ob b'.length cb, .string key] W fun e w' => e = .returned vb2 ∧ w' = W) := fun W hk => by have := behind_any _ key b' W (S4.out.kept hk); rwa [← hvb2] at this
        have T3 := hid (S3.out.behind key)
        have T4 := hid (S4.out.behind key)
        rw [← hva2] at T3
        rw [← hvb2] at T4
        clear hva2 hvb2 hGk
        obtain ⟨oa2, ca2, rfl⟩ := T3.out.form
        obtain ⟨ob2, cb2, rfl⟩ := T4.out.form
        have HKW : Hid (Keeps (fun k => k = pa ∨ k = pb) wr (((w1.setCell ⟨pa, 0, none⟩ (.slice oa2 (behindL a' key).length ca2)).setCell ⟨pb, 0, none⟩ (.slice ob2 (behindL b' key).length cb2)).drew)) := (((K1.out.mono (fun _ _ h => h.elim)).trans (Keeps.setCell _ _ _) (fun k _ e => .inl e)).trans (Keeps.setCell _ _ _) (fun k _ e => .inr e)).dr
        have HY3 := hid (HY.out pre key _ (HJC.out pre wr _ HKW.out HJ.out) HLN.out)
        have HGW : Hid (∀ k ∈ G, k < w1.heap.size) := fun k hk => Nat.lt_of_lt_of_le (HGL.out k hk) K1.out.size
        have hm1 : boxLen wr pa + boxLen wr pb = a'.length + b'.length := by rw [HNA.out]; simp [boxLen, cell_of_heap H1.out 0, cell_of_heap H2.out 0]
        have HM1 := hid hm1
        clear hm1
        gi_region_with (first
          | (refine ⟨trivial, ?_⟩; gi_at_call_has 91 (Value.slice oa na ca); go_must (refine (callsIn_wide.2 (HBA.out w1.drew (fun _ _ => rfl))).mono ?_; rintro e wz ⟨rfl, rfl⟩))
          | (refine ⟨trivial, ?_⟩; gi_at_call_has 91 (Value.slice ob b'.length cb); go_must (refine (callsIn_wide.2 (HBB.out w1.drew (fun _ _ => rfl))).mono ?_; rintro e wz ⟨rfl, rfl⟩)))
        all_goals
          obtain ⟨fn, tmps, assign, body, hy, hR⟩ := HY3.out
          clear HY3 HY HJC HBA HBB HLE
          gi_wp2
          refine hR.mono ?_
          rintro e W4 (⟨rfl, hJ4, hk4⟩ | ⟨rfl, hX4⟩)
          rotate_left
          · have HX4 := hid hX4
            clear hX4 hy hR e1 e2 f1 f2
            gi_wp2
            refine bodyPost_ret (results_none rfl _ _ _) rfl ?_
            exact ⟨⟨_, rfl⟩, .inr ⟨pre ++ [key], ⟨_, _, HST.out⟩, HX4.out⟩⟩
          obtain ⟨hmem, x1, x2⟩ := merge_next hpa hpb hne HGW.out D1.out D2.out T3.out T4.out HST.out hk4
          have HMEM := hid hmem
          have HJ4 := hid hJ4
          have hm4 : boxLen W4 pa + boxLen W4 pb = (behindL a' key).length + (behindL b' key).length := by simp [boxLen, x1, x2]
          have HM4 := hid hm4
          clear hmem hJ4 hk4 hm4 hy hR x1 x2 e1 e2 f1 f2
          gi_wp2
          exact ⟨⟨pre ++ [key], HJ4.out, HMEM.out⟩, by rw [HM1.out, HM4.out]; exact HLS.out⟩
      · subst hca
        gi_wp2_with (refine ⟨trivial, ?_⟩; gi_at_call 90; go_must (refine (callsIn_wide.2 HLE.out).mono ?_; rintro e w1 ⟨rfl, k1⟩; have d1 := (k1.block pa (Array.getElem?_eq_some_iff.1 H1.out).1 (fun h => h)).trans H1.out; have d2 := (k1.block pb (Array.getElem?_eq_some_iff.1 H2.out).1 (fun h => h)).trans H2.out; have e1 := cell_of_heap d1 0; have e2 := cell_of_heap d2 0; have f1 := frozen_of_heap d1 0; have f2 := frozen_of_heap d2 0; simp at e1 e2; have D1 := hid d1; have D2 := hid d2; have K1 := hid k1; clear d1 d2 k1 c1 c2))
        obtain ⟨va2, hva2⟩ : ∃ v, v = behindV (.slice oa 0 ca) (hitB a' key) := ⟨_, rfl⟩
        obtain ⟨vb2, hvb2⟩ : ∃ v, v = behindV (.slice ob b'.length cb) (hitB b' key) := ⟨_, rfl⟩
        have hGk : ∀ k ∈ G, w1.heap[k]? = wr.heap[k]? := fun k hk => K1.out.block k (HGL.out k hk) (fun h => h)
        have S3 := hid (H3.out.kept hGk)
        have S4 := hid (H4.out.kept hGk)
        have HBA : Hid (∀ W, (∀ k ∈ G, W.heap[k]? = w1.heap[k]?) → Calls Tryz.prog 91 #[.slice oa 0 ca, .string key] W fun e w' => e = .returned va2 ∧ w' = W) := fun W hk => by have := behind_any _ key a' W (S3.out.kept hk); rwa [← hva2] at this
        have HBB : Hid (∀ W, (∀ k ∈ G, W.heap[k]? = w1.heap[k]?) → Calls Tryz.prog 91 #[.slice ob b'.length cb, .string key] W fun e w' => e = .returned vb2 ∧ w' = W) := fun W hk => by have := behind_any _ key b' W (S4.out.kept hk); rwa [← hvb2] at this
        have T3 := hid (S3.out.behind key)
        have T4 := hid (S4.out.behind key)
        rw [← hva2] at T3
        rw [← hvb2] at T4
        clear hva2 hvb2 hGk
        obtain ⟨oa2, ca2, rfl⟩ := T3.out.form
        obtain ⟨ob2, cb2, rfl⟩ := T4.out.form
        have HKW : Hid (Keeps (fun k => k = pa ∨ k = pb) wr (((w1.setCell ⟨pa, 0, none⟩ (.slice oa2 (behindL a' key).length ca2)).setCell ⟨pb, 0, none⟩ (.slice ob2 (behindL b' key).length cb2)).drew)) := (((K1.out.mono (fun _ _ h => h.elim)).trans (Keeps.setCell _ _ _) (fun k _ e => .inl e)).trans (Keeps.setCell _ _ _) (fun k _ e => .inr e)).dr
        have HY3 := hid (HY.out pre key _ (HJC.out pre wr _ HKW.out HJ.out) HLN.out)
        have HGW : Hid (∀ k ∈ G, k < w1.heap.size) := fun k hk => Nat.lt_of_lt_of_le (HGL.out k hk) K1.out.size
        have hm1 : boxLen wr pa + boxLen wr pb = a'.length + b'.length := by rw [HNA.out]; simp [boxLen, cell_of_heap H1.out 0, cell_of_heap H2.out 0]
        have HM1 := hid hm1
        clear hm1
        gi_region_with (first
          | (refine ⟨trivial, ?_⟩; gi_at_call_has 91 (Value.slice oa 0 ca); go_must (refine (callsIn_wide.2 (HBA.out w1.drew (fun _ _ => rfl))).mono ?_; rintro e wz ⟨rfl, rfl⟩))
          | (refine ⟨trivial, ?_⟩; gi_at_call_has 91 (Value.slice ob b'.length cb); go_must (refine (callsIn_wide.2 (HBB.out w1.drew (fun _ _ => rfl))).mono ?_; rintro e wz ⟨rfl, rfl⟩)))
        all_goals
          obtain ⟨fn, tmps, assign, body, hy, hR⟩ := HY3.out
          clear HY3 HY HJC HBA HBB HLE
          gi_wp2
          refine hR.mono ?_
          rintro e W4 (⟨rfl, hJ4, hk4⟩ | ⟨rfl, hX4⟩)
          rotate_left
          · have HX4 := hid hX4
            clear hX4 hy hR e1 e2 f1 f2
            gi_wp2
            refine bodyPost_ret (results_none rfl _ _ _) rfl ?_
            exact ⟨⟨_, rfl⟩, .inr ⟨pre ++ [key], ⟨_, _, HST.out⟩, HX4.out⟩⟩
          obtain ⟨hmem, x1, x2⟩ := merge_next hpa hpb hne HGW.out D1.out D2.out T3.out T4.out HST.out hk4
          have HMEM := hid hmem
          have HJ4 := hid hJ4
          have hm4 : boxLen W4 pa + boxLen W4 pb = (behindL a' key).length + (behindL b' key).length := by simp [boxLen, x1, x2]
          have HM4 := hid hm4
          clear hmem hJ4 hk4 hm4 hy hR x1 x2 e1 e2 f1 f2
          gi_wp2
          exact ⟨⟨pre ++ [key], HJ4.out, HMEM.out⟩, by rw [HM1.out, HM4.out]; exact HLS.out⟩

end Go.Proofs.YtpagenipflmlfaaGreatDoor
