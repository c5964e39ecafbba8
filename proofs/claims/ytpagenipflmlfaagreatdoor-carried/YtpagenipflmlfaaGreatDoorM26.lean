import Derived.Test.YtpagenipflmlfaaGreatDoorM25

/- A copying: Start. -/

namespace Go.Proofs.YtpagenipflmlfaaGreatDoor

open Go.RowKit Go.Shelf

attribute [local go_sem] Oper.semAt_some

/-- what Start leaves -/
def StartPost (R : Rep) (x : Cop) (w w' : World) : Prop :=
  ∃ cm, StoreAt w' { R with cm := cm, started := R.started + 1, copyings := R.copyings ++ [(R.started + 1, x)] } ∧ Keeps (· ∈ R.fp) w w' ∧ (cm = R.cm ∨ ∃ q, cm = some q ∧ w.heap.size ≤ q)

/-- how things stand when the number of the new copying is about to be given: q is the map of the copyings -/
structure StaAt (R : Rep) (x : Cop) (q : Nat) (fs : List Value) (C : List Nat) (w W : World) : Prop where
  st : StoreAt W { R with cm := some q }
  chg : Chg W (w.heap.size + 1) fs C
  out : ∀ k ∈ C, k ∉ R.fp ∧ w.heap.size < k ∧ k ≠ q ∧ k ≠ w.heap.size + 1 + 1 ∧ k < W.heap.size
  keep : Keeps (fun k => k = R.sb) w W
  err : W.heap[w.heap.size]? = some (.cells #[.int .i64 0] 34 (0, 0))
  cop : W.heap[w.heap.size + 1 + 1]? = some (.cells #[.bool x.full, .int .i64 x.from', .int .i64 x.to, .bool x.headed, .string x.next, .int .u32 x.sum, .int .i64 x.count] 129 (0, 0))
  few : fs.length ≤ 1
  new : R.cm = some q ∨ R.cm = none ∧ w.heap.size + 1 + 1 < q
  old : ∀ k ∈ R.fp, k < w.heap.size

theorem StaAt.fp {R : Rep} {x : Cop} {q : Nat} {fs : List Value} {C : List Nat} {w W : World} (h : StaAt R x q fs C w W) : ∀ k ∈ Rep.fp { R with cm := some q }, k ∈ R.fp ∨ k = q := fun k hk => by
  rcases h.new with e | ⟨e, -⟩
  · rw [← e] at hk
    exact .inl hk
  · rcases List.mem_cons.1 ((fp_cm e _).mem_iff.1 hk) with e | h
    · exact .inr e
    · exact .inl h

theorem StaAt.qsb {R : Rep} {x : Cop} {q : Nat} {fs : List Value} {C : List Nat} {w W : World} (h : StaAt R x q fs C w W) : R.sb ≠ q := fun e => by
  have hnd := (fp_split { R with cm := some q }).nodup_iff.1 h.st.nodup
  rw [List.nodup_cons] at hnd
  exact hnd.1 (List.mem_append_left _ (by rw [e]; simp [pcOf]))

theorem StaAt.q3 {R : Rep} {x : Cop} {q : Nat} {fs : List Value} {C : List Nat} {w W : World} (h : StaAt R x q fs C w W) : q ≠ w.heap.size ∧ q ≠ w.heap.size + 1 + 1 := by
  rcases h.new with e | ⟨e, h1⟩
  · have := h.old q ((fp_split R).mem_iff.2 (List.mem_cons_of_mem _ (List.mem_append_left _ (by simp [pcOf, e]))))
    omega
  · omega

/-- .. and when it has been -/
theorem StaAt.numbered {R : Rep} {x : Cop} {q : Nat} {fs fs' : List Value} {C C' : List Nat} {w W W' : World} {n : Int} (h : StaAt R x q fs C w W) (hk : Keeps (fun k => k ∈ C ∨ k = R.sb) W W') (hC : Chg W' (w.heap.size + 1) fs' C') (hC' : ∀ k ∈ C', k ∈ C ∨ W.heap.size ≤ k) (hb : W'.heap[R.sb]? = (W.setCell ⟨R.sb, 5, none⟩ (.int .i64 n)).heap[R.sb]?) :
    StoreAt W' { R with cm := some q, started := n } ∧ (∀ k ∈ C', k ∉ R.fp ∧ w.heap.size < k ∧ k ≠ q ∧ k ≠ w.heap.size + 1 + 1 ∧ k < W'.heap.size) ∧ Keeps (fun k => k = R.sb) w W' ∧ W'.heap[w.heap.size]? = some (.cells #[.int .i64 0] 34 (0, 0)) ∧ W'.heap[w.heap.size + 1 + 1]? = some (.cells #[.bool x.full, .int .i64 x.from', .int .i64 x.to, .bool x.headed, .string x.next, .int .u32 x.sum, .int .i64 x.count] 129 (0, 0)) := by
  have hsb := h.old R.sb (by simp [Rep.fp])
  have l0 := (Array.getElem?_eq_some_iff.1 h.err).1
  have l2 := (Array.getElem?_eq_some_iff.1 h.cop).1
  have hq : q < W.heap.size := fp_lt h.st q ((fp_split _).mem_iff.2 (List.mem_cons_of_mem _ (List.mem_append_left _ (by simp [pcOf]))))
  refine ⟨StoreAt.startSet (R := { R with cm := some q }) h.st hk (fun k hk' hf => ?_) hb, fun k hk' => ?_, h.keep.trans hk (fun k hk' hc => ?_), (hk.block _ l0 ?_).trans h.err, (hk.block _ l2 ?_).trans h.cop⟩
  · obtain ⟨a1, a2, a3, a4, a5⟩ := h.out k hk'
    rcases h.fp k hf with h1 | h1
    · exact a1 h1
    · exact a3 h1
  · have hl := hC.lt k hk'
    rcases hC' k hk' with h1 | h1
    · obtain ⟨a1, a2, a3, a4, a5⟩ := h.out k h1
      exact ⟨a1, a2, a3, a4, hl⟩
    · exact ⟨fun hf => by have := h.old k hf; omega, by omega, by omega, by omega, hl⟩
  · rcases hc with hc | hc
    · have := (h.out k hc).2.1; omega
    · exact hc
  · rintro (hc | hc)
    · exact absurd (h.out _ hc).2.1 (by omega)
    · omega
  · rintro (hc | hc)
    · exact (h.out _ hc).2.2.2.1 rfl
    · omega

set_option maxRecDepth 100000 in
set_option maxHeartbeats 4000000 in
theorem start_some (R : Rep) (full : Bool) (a b : Int) (w : World) (h : StoreAt w R) (g : Good R) (hr : Rises R.keys) (hl : R.keys.length ≤ 200000000000) (hc4 : R.copyings.length ≤ 4)
    (hj : judgeI (decide (R.floor ≤ b) && decide (b ≤ R.now)) (decide (R.floor ≤ a) && decide (a ≤ R.now)) R.copyings.length (tellL R.keys (versOf R.hist) (Cop.new full a b)).length (Cop.new full a b) = 0) (hs1 : 0 ≤ R.started) (hs2 : R.started < 1152921504606846976) (hn : look R.copyings (R.started + 1) = none) (q : Nat) (hcm : R.cm = some q) :
    Calls Tryz.prog 32 #[.pointer (some ⟨R.sb, 0, none⟩), .bool full, .int .i64 a, .int .i64 b] w fun e w' => e = .returned (.tuple #[.int .i64 (R.started + 1), .int .i64 0]) ∧ StartPost R (Cop.new full a b) w w' := by
  have hmf : ∀ (fn : Fn) (first cap : Array Value) (w : World), (Instr.makeFunc fn first cap).run Tryz.prog w = .ok (.func fn first cap) w := fun _ _ _ _ => rfl
  have HJ : Hid (∀ W, Keeps (fun _ => False) w W → Calls Tryz.prog 61 #[.pointer (some ⟨R.sb, 0, none⟩), .agg #[.bool full, .int .i64 a, .int .i64 b, .bool false, .string ByteArray.empty, .int .u32 0, .int .i64 0]] W fun e w' => e = .returned (.int .i64 0) ∧ Keeps (fun _ => False) W w') := fun W hW => by
    have := judge2_any R (Cop.new full a b) W (h.kept hW (fun _ _ h => h)) g hr hl hc4
    rw [show (Cop.new full a b).to = b from rfl, show (Cop.new full a b).from' = a from rfl, hj] at this
    exact this
  have hlt := h.lt
  have HWR : Hid (IntKind.i64.wrap (R.started + 1) = R.started + 1) := IntWalk.i64_in _ ⟨by omega, by omega⟩
  have HLK : Hid (look R.copyings (R.started + 1) = none) := hn
  have HST := hid h
  have HCM := hid hcm
  have hflt := fp_lt h
  have hem := eqMapC_some
  have c6 : Hid (∀ W, Keeps (fun _ => False) w W → W.cell? ⟨R.sb, 6, none⟩ = some (.map (some q))) := fun W hW => ((h.kept hW (fun _ _ h => h)).cell 6).trans (by rw [← hcm]; rfl)
  clear h g hr hl hc4 hj hcm hn
  go_enter_defers Tryz.func32, Tryz.ntmps32
  go_wp2_with fail
  refine (HJ.out _ ((((Keeps.refl (fun _ => False) w).al _).al _).al _)).mono ?_
  rintro e w0 ⟨rfl, k0⟩
  have kw0 : Keeps (fun _ => False) w w0 := ((((Keeps.refl (fun _ => False) w).al _).al _).al _).tr k0 (fun _ h => h)
  have HSA : Hid (StaAt R (Cop.new full a b) q [] [w.heap.size + 1] w w0) := by
    refine ⟨?_, ?_, fun k hk => ?_, kw0.mono (fun _ _ h => h.elim), ((k0.block w.heap.size (by simp; omega) (fun h => h)).trans (Below.heap_alloc _ _ _ (by simp; omega))).trans ((Below.heap_alloc _ _ _ (by simp)).trans (heap_new w _)), ?_, by simp, .inl HCM.out, hflt⟩
    · have := HST.out.kept kw0 (fun _ _ h => h)
      rw [← HCM.out]
      exact this
    · exact ((chg_new w (.cells #[.int .i64 0] 34)).kept (Keeps.alloc (fun _ => False) _ _) (fun _ _ h => h)).kept k0 (fun _ _ h => h)
    · simp at hk
      subst hk
      have hz := k0.size
      simp at hz
      refine ⟨fun hf => by have := hflt _ hf; omega, by omega, fun e => ?_, by omega, by omega⟩
      have := hflt q ((fp_split R).mem_iff.2 (List.mem_cons_of_mem _ (List.mem_append_left _ (by simp [pcOf, HCM.out]))))
      omega
    · have := heap_new ((w.alloc (.cells #[.int .i64 0] 34)).alloc (.cells #[.slice none 0 0] 69)) (.cells #[.bool full, .int .i64 a, .int .i64 b, .bool false, .string ByteArray.empty, .int .u32 0, .int .i64 0] 129)
      rw [show ((w.alloc (.cells #[.int .i64 0] 34)).alloc (.cells #[.slice none 0 0] 69)).heap.size = w.heap.size + 1 + 1 by simp] at this
      exact (k0.block (w.heap.size + 1 + 1) (by simp) (fun h => h)).trans this
  have d6 := c6.out _ kw0
  obtain ⟨fs0, hfs⟩ : ∃ fs0 : List Value, fs0 = [] := ⟨_, rfl⟩
  obtain ⟨C0, hC0⟩ : ∃ C0, C0 = [w.heap.size + 1] := ⟨_, rfl⟩
  rw [← hfs, ← hC0] at HSA
  clear hfs hC0 k0 kw0 c6
  go_wp2_with fail
  obtain ⟨n0, hn0⟩ : ∃ n0, n0 = R.started := ⟨_, rfl⟩
  have HA := hid (assign_int (w.heap.size + 1) fs0 C0 R.sb 5 R.started (IntKind.i64.wrap (R.started + 1)) w0.drew (HSA.out.chg.kept (Keeps.drew (fun _ => False) _) (fun _ _ h => h)) ((HSA.out.st.kept (Keeps.drew (fun _ => False) _) (fun _ _ h => h)).cell 5) ((HSA.out.st.kept (Keeps.drew (fun _ => False) _) (fun _ _ h => h)).frozen 5) (fun hc => (HSA.out.out _ hc).1 (by simp [Rep.fp])) (by have := HSA.out.few; omega))
  have k5 : w0.cell? ⟨R.sb, 5, none⟩ = some (.int .i64 R.started) := HSA.out.st.cell 5
  refine wp_normal ?_
  go_region_with (go_at_call 43; refine (HA.out).mono ?_; rintro e w1 ⟨rfl, fs1, C1, hf1, hC1, hk1, hC1', hb1⟩; rw [HWR.out] at hb1; have HB1 := hid hb1; clear hb1)
  obtain ⟨s1, o1, kp1, e1, x1⟩ := HSA.out.numbered ((Keeps.drew (fun _ => False) w0 |>.mono (fun _ _ h => h.elim)).tr hk1 (fun _ h => h)) hC1 (fun k hk => hC1' k hk) HB1.out
  have g5 : w1.cell? ⟨R.sb, 5, none⟩ = some (.int .i64 (R.started + 1)) := s1.cell 5
  have g6 : w1.cell? ⟨R.sb, 6, none⟩ = some (.map (some q)) := s1.cell 6
  have gM : MapAt (Value.int .i64) w1 q (R.copyings.map fun p => (p.1, p.2.val)) := s1.works.copyMap
  have hqs := HSA.out.qsb
  have HSB : Hid (¬ (R.sb ∈ C1 ∨ R.sb = q)) := fun h' => h'.elim (fun hc => (o1 _ hc).1 (by simp [Rep.fp])) (fun e => hqs e)
  have HXB : Hid (¬ (w.heap.size + 1 + 1 ∈ C1 ∨ w.heap.size + 1 + 1 = q)) := fun h' => h'.elim (fun hc => (o1 _ hc).2.2.2.1 rfl) (fun e => HSA.out.q3.2 e.symm)
  have HE := hid (enter_cop (w.heap.size + 1) fs1 C1 q (R.started + 1) _ ((look R.copyings (R.started + 1)).getD Cop.zero) (Cop.new full a b) w1.drew (hC1.kept (Keeps.drew (fun _ => False) _) (fun _ _ h => h)) (gM.kept (Keeps.drew (fun _ => False) _) (fun h => h)) (cops_look _ _) (fun hc => (o1 _ hc).2.2.1 rfl) (by have := HSA.out.few; rw [hf1]; omega))
  have z0 := cell_of_heap x1 0
  have z1 := cell_of_heap x1 1
  have z2 := cell_of_heap x1 2
  have z3 := cell_of_heap x1 3
  have z4 := cell_of_heap x1 4
  have z5 := cell_of_heap x1 5
  have z6 := cell_of_heap x1 6
  simp [Cop.new] at z0 z1 z2 z3 z4 z5 z6
  replace z4 : w1.cell? ⟨w.heap.size + 1 + 1, 4, none⟩ = some (.string { data := #[] }) := z4
  have HX1 := hid x1
  have HS1 := hid s1
  have HO1 := hid o1
  have HKP1 := hid kp1
  have HE1 := hid e1
  clear x1 s1 o1 kp1 e1 gM k5 hk1 hC1' HA
  simp only [Cop.val, Cop.new] at HE
  go_wp2_with fail
  go_region_held3 (fun W => W.cell? ⟨R.sb, 5, none⟩ = some (.int .i64 (R.started + 1)) ∧ W.cell? ⟨R.sb, 6, none⟩ = some (.map (some q)) ∧ W.cell? ⟨w.heap.size + 1 + 1, 0, none⟩ = some (.bool full) ∧ W.cell? ⟨w.heap.size + 1 + 1, 1, none⟩ = some (.int .i64 a) ∧ W.cell? ⟨w.heap.size + 1 + 1, 2, none⟩ = some (.int .i64 b) ∧ W.cell? ⟨w.heap.size + 1 + 1, 3, none⟩ = some (.bool false) ∧ W.cell? ⟨w.heap.size + 1 + 1, 4, none⟩ = some (.string { data := #[] }) ∧ W.cell? ⟨w.heap.size + 1 + 1, 5, none⟩ = some (.int .u32 0) ∧ W.cell? ⟨w.heap.size + 1 + 1, 6, none⟩ = some (.int .i64 0)) (go_keep) (first | (go_at_call 63; refine (HE.out).mono ?_; rintro e w2 ⟨rfl, fs2, C2, hf2, hC2, hk2, hC2', hm2⟩; have q5 := hk2.cell (p := ⟨R.sb, 5, none⟩) ((Keeps.drew (fun _ => False) w1).cell g5 (fun h => h)) HSB.out; have q6 := hk2.cell (p := ⟨R.sb, 6, none⟩) ((Keeps.drew (fun _ => False) w1).cell g6 (fun h => h)) HSB.out; have r0 := hk2.cell (p := ⟨w.heap.size + 1 + 1, 0, none⟩) ((Keeps.drew (fun _ => False) w1).cell z0 (fun h => h)) HXB.out; have r1 := hk2.cell (p := ⟨w.heap.size + 1 + 1, 1, none⟩) ((Keeps.drew (fun _ => False) w1).cell z1 (fun h => h)) HXB.out; have r2 := hk2.cell (p := ⟨w.heap.size + 1 + 1, 2, none⟩) ((Keeps.drew (fun _ => False) w1).cell z2 (fun h => h)) HXB.out; have r3 := hk2.cell (p := ⟨w.heap.size + 1 + 1, 3, none⟩) ((Keeps.drew (fun _ => False) w1).cell z3 (fun h => h)) HXB.out; have r4 := hk2.cell (p := ⟨w.heap.size + 1 + 1, 4, none⟩) ((Keeps.drew (fun _ => False) w1).cell z4 (fun h => h)) HXB.out; have r5 := hk2.cell (p := ⟨w.heap.size + 1 + 1, 5, none⟩) ((Keeps.drew (fun _ => False) w1).cell z5 (fun h => h)) HXB.out; have r6 := hk2.cell (p := ⟨w.heap.size + 1 + 1, 6, none⟩) ((Keeps.drew (fun _ => False) w1).cell z6 (fun h => h)) HXB.out))
  have hE0 : w2.heap[w.heap.size]? = some (.cells #[.int .i64 0] 34 (0, 0)) := by
    rw [hk2.block w.heap.size (by have := (Array.getElem?_eq_some_iff.1 HE1.out).1; exact this) (by rintro (hc | hc); exact absurd (HO1.out _ hc).2.1 (by omega); exact HSA.out.q3.1 hc.symm)]
    exact HE1.out
  have y0 : w2.cell? ⟨w.heap.size, 0, none⟩ = some (.int .i64 0) := cell_of_heap hE0 0
  have y1 : w2.frozen? ⟨w.heap.size, 0, none⟩ = false := frozen_of_heap hE0 0
  have HE0 := hid hE0
  have HM2 := hid hm2
  have HK2 := hid hk2
  clear r0 r1 r2 r3 r4 r5 r6 q6
  clear hE0 hm2 hk2 z0 z1 z2 z3 z4 z5 z6 g5 g6 HE
  go_wp2
  refine leaves_cons (f := 60) (args := #[.pointer (some ⟨w.heap.size + 1, 0, none⟩), .pointer (some ⟨w.heap.size, 0, none⟩)]) (by simp) (by simp [go_sem]) ?_
  have hE2 := heap_setCell_same (i := 0) HE0.out (.int .i64 0)
  refine (start1_ok (w.heap.size + 1) w.heap.size _ ?_).mono ?_
  · exact cell_of_heap hE2 0
  rintro e u' w'' ⟨rfl, rfl, rfl⟩
  have hpost : StartPost R (Cop.new full a b) w (w2.setCell ⟨w.heap.size, 0, none⟩ (.int .i64 0)) := by
    have hm : MapAt (Value.int .i64) w2 q (put (R.copyings.map fun p => (p.1, p.2.val)) (R.started + 1) (Cop.new full a b).val) := HM2.out
    rw [cops_put, put_none HLK.out] at hm
    have s2 := (HS1.out.kept (Keeps.drew (fun _ => False) _) (fun _ _ h => h)).coped (b := q) rfl HK2.out (fun k hk hf => by
      obtain ⟨a1, a2, a3, a4, a5⟩ := HO1.out k hk
      rcases HSA.out.fp k hf with h | h
      · exact a1 h
      · exact a3 h) hm
    refine ⟨some q, s2.kept (Keeps.setCell _ _ _) (fun k hk e => ?_), ?_, ?_⟩
    · have e' : k = w.heap.size := e
      rcases HSA.out.fp k hk with h | h
      · have := HSA.out.old k h
        omega
      · exact HSA.out.q3.1 (by omega)
    · refine ((HKP1.out.mono (T := (· ∈ R.fp)) (fun k _ h => by rw [h]; simp [Rep.fp])).trans ((Keeps.drew (fun _ => False) w1).mono (T := fun k => k ∈ C1 ∨ k = q) (fun _ _ h => h.elim) |>.tr HK2.out (fun _ h => h)) (fun k hk h => ?_)).st (.inl (Nat.le_refl _)) _
      rcases h with h | h
      · have := (HO1.out k h).2.1; omega
      · rcases HSA.out.new with e | ⟨e, h1⟩
        · rw [h]
          exact (fp_split R).mem_iff.2 (List.mem_cons_of_mem _ (List.mem_append_left _ (by simp [pcOf, e])))
        · omega
    · rcases HSA.out.new with e | ⟨e, h1⟩
      · exact .inl e.symm
      · exact .inr ⟨q, rfl, by omega⟩
  have hb := cell_of_heap hE2 0
  generalize w2.setCell ⟨w.heap.size, 0, none⟩ (.int .i64 0) = W3 at hpost hb
  simp at hb
  simp [Leaves, settle, results, Tryz.results32, go_sem, hb]
  exact hpost

set_option maxRecDepth 100000 in
set_option maxHeartbeats 4000000 in
theorem start_new (R : Rep) (full : Bool) (a b : Int) (w : World) (h : StoreAt w R) (g : Good R) (hr : Rises R.keys) (hl : R.keys.length ≤ 200000000000) (hc4 : R.copyings.length ≤ 4)
    (hj : judgeI (decide (R.floor ≤ b) && decide (b ≤ R.now)) (decide (R.floor ≤ a) && decide (a ≤ R.now)) R.copyings.length (tellL R.keys (versOf R.hist) (Cop.new full a b)).length (Cop.new full a b) = 0) (hs1 : 0 ≤ R.started) (hs2 : R.started < 1152921504606846976) (hn : look R.copyings (R.started + 1) = none) (hcm : R.cm = none) :
    Calls Tryz.prog 32 #[.pointer (some ⟨R.sb, 0, none⟩), .bool full, .int .i64 a, .int .i64 b] w fun e w' => e = .returned (.tuple #[.int .i64 (R.started + 1), .int .i64 0]) ∧ StartPost R (Cop.new full a b) w w' := by
  have hmf : ∀ (fn : Fn) (first cap : Array Value) (w : World), (Instr.makeFunc fn first cap).run Tryz.prog w = .ok (.func fn first cap) w := fun _ _ _ _ => rfl
  have HJ : Hid (∀ W, Keeps (fun _ => False) w W → Calls Tryz.prog 61 #[.pointer (some ⟨R.sb, 0, none⟩), .agg #[.bool full, .int .i64 a, .int .i64 b, .bool false, .string ByteArray.empty, .int .u32 0, .int .i64 0]] W fun e w' => e = .returned (.int .i64 0) ∧ Keeps (fun _ => False) W w') := fun W hW => by
    have := judge2_any R (Cop.new full a b) W (h.kept hW (fun _ _ h => h)) g hr hl hc4
    rw [show (Cop.new full a b).to = b from rfl, show (Cop.new full a b).from' = a from rfl, hj] at this
    exact this
  have hlt := h.lt
  have HWR : Hid (IntKind.i64.wrap (R.started + 1) = R.started + 1) := IntWalk.i64_in _ ⟨by omega, by omega⟩
  have HLK : Hid (look R.copyings (R.started + 1) = none) := hn
  have HST := hid h
  have HCM := hid hcm
  have hflt := fp_lt h
  have hem := eqMapC_none
  have hmm := @run_makeMap Tryz.prog
  have c6 : Hid (∀ W, Keeps (fun _ => False) w W → W.cell? ⟨R.sb, 6, none⟩ = some (.map none)) := fun W hW => ((h.kept hW (fun _ _ h => h)).cell 6).trans (by rw [← hcm]; rfl)
  clear h g hr hl hc4 hj hcm hn
  go_enter_defers Tryz.func32, Tryz.ntmps32
  go_wp2_with fail
  refine (HJ.out _ ((((Keeps.refl (fun _ => False) w).al _).al _).al _)).mono ?_
  rintro e wj ⟨rfl, k0⟩
  have kwj : Keeps (fun _ => False) w wj := ((((Keeps.refl (fun _ => False) w).al _).al _).al _).tr k0 (fun _ h => h)
  have hj0 : wj.heap[w.heap.size]? = some (.cells #[.int .i64 0] 34 (0, 0)) := ((k0.block w.heap.size (by simp; omega) (fun h => h)).trans (Below.heap_alloc _ _ _ (by simp; omega))).trans ((Below.heap_alloc _ _ _ (by simp)).trans (heap_new w _))
  have hj2 : wj.heap[w.heap.size + 1 + 1]? = some (.cells #[.bool full, .int .i64 a, .int .i64 b, .bool false, .string ByteArray.empty, .int .u32 0, .int .i64 0] 129 (0, 0)) := by
    have := heap_new ((w.alloc (.cells #[.int .i64 0] 34)).alloc (.cells #[.slice none 0 0] 69)) (.cells #[.bool full, .int .i64 a, .int .i64 b, .bool false, .string ByteArray.empty, .int .u32 0, .int .i64 0] 129)
    rw [show ((w.alloc (.cells #[.int .i64 0] 34)).alloc (.cells #[.slice none 0 0] 69)).heap.size = w.heap.size + 1 + 1 by simp] at this
    exact (k0.block (w.heap.size + 1 + 1) (by simp) (fun h => h)).trans this
  have hjc : Chg wj (w.heap.size + 1) [] [w.heap.size + 1] := ((chg_new w (.cells #[.int .i64 0] 34)).kept (Keeps.alloc (fun _ => False) _ _) (fun _ _ h => h)).kept k0 (fun _ _ h => h)
  have hjz : w.heap.size + 3 ≤ wj.heap.size := by have := k0.size; simp at this; omega
  have d6 := c6.out _ kwj
  have hWm := HST.out.kept (kwj.al (.map #[] 0)) (fun _ _ h => h)
  have HAS := hid (assign_cops (w.heap.size + 1) [] [w.heap.size + 1] R.sb 6 none (some wj.heap.size) (wj.alloc (.map #[] 0)) (hjc.kept (Keeps.alloc (fun _ => False) _ _) (fun _ _ h => h)) (c6.out _ (kwj.al _)) (hWm.frozen 6) (by simp; omega) (by simp))
  have HWM := hid hWm
  have HJ0 := hid hj0
  have HJ2 := hid hj2
  have HKJ := hid kwj
  clear k0 kwj c6 hj0 hj2 hWm hjc
  go_wp2_with (go_at_call 62; go_must (refine (HAS.out).mono ?_; rintro e w0 ⟨rfl, fs0, C0, hf0, hC0, hk0, hC0', hb0⟩; have HB0 := hid hb0; clear hb0))
  obtain ⟨q, hq⟩ : ∃ q, q = wj.heap.size := ⟨_, rfl⟩
  have HSA : Hid (StaAt R (Cop.new full a b) q fs0 C0 w w0) := by
    have hq0 : MapAt (Value.int .i64) (wj.alloc (.map #[] 0)) wj.heap.size [] := MapAt.made (Value.int .i64) wj
    have hqf : wj.heap.size ∉ R.fp := fun hf => by have := hflt _ hf; omega
    have hout : ∀ k ∈ C0, k = w.heap.size + 1 ∨ wj.heap.size + 1 ≤ k := fun k hk => by
      rcases hC0' k hk with h' | h'
      · simp at h'; exact .inl h'
      · simp at h'; exact .inr h'
    subst hq
    refine ⟨HWM.out.copsMade HCM.out hk0 (fun k hk hf => by have := hflt k hf; simp at hk; omega) hq0 (by simp; omega) hqf HB0.out, hC0, fun k hk => ?_, ?_, ?_, ?_, by rw [hf0]; simp, .inr ⟨HCM.out, by omega⟩, hflt⟩
    · have hl0 := hC0.lt k hk
      rcases hout k hk with h' | h'
      · exact ⟨fun hf => by have := hflt k hf; omega, by omega, by omega, by omega, hl0⟩
      · exact ⟨fun hf => by have := hflt k hf; omega, by omega, by omega, by omega, hl0⟩
    · exact ((HKJ.out.al _).mono (fun _ _ h => h.elim)).trans hk0 (fun k hk h => by
        rcases h with h | h
        · simp at h; omega
        · exact h)
    · exact ((hk0.block w.heap.size (by simp; omega) (by rintro (hc | hc); (simp at hc); omega)).trans (Below.heap_alloc _ _ _ (by omega))).trans HJ0.out
    · exact ((hk0.block (w.heap.size + 1 + 1) (by simp; omega) (by rintro (hc | hc); (simp at hc); omega)).trans (Below.heap_alloc _ _ _ (by omega))).trans HJ2.out
  rw [← hq] at *
  clear hC0 hk0 hC0' HB0 HAS HWM d6 hjz hf0
  go_wp2_with fail
  obtain ⟨n0, hn0⟩ : ∃ n0, n0 = R.started := ⟨_, rfl⟩
  have HA := hid (assign_int (w.heap.size + 1) fs0 C0 R.sb 5 R.started (IntKind.i64.wrap (R.started + 1)) w0.drew (HSA.out.chg.kept (Keeps.drew (fun _ => False) _) (fun _ _ h => h)) ((HSA.out.st.kept (Keeps.drew (fun _ => False) _) (fun _ _ h => h)).cell 5) ((HSA.out.st.kept (Keeps.drew (fun _ => False) _) (fun _ _ h => h)).frozen 5) (fun hc => (HSA.out.out _ hc).1 (by simp [Rep.fp])) (by have := HSA.out.few; omega))
  have k5 : w0.cell? ⟨R.sb, 5, none⟩ = some (.int .i64 R.started) := HSA.out.st.cell 5
  refine wp_normal ?_
  go_region_with (go_at_call 43; refine (HA.out).mono ?_; rintro e w1 ⟨rfl, fs1, C1, hf1, hC1, hk1, hC1', hb1⟩; rw [HWR.out] at hb1; have HB1 := hid hb1; clear hb1)
  obtain ⟨s1, o1, kp1, e1, x1⟩ := HSA.out.numbered ((Keeps.drew (fun _ => False) w0 |>.mono (fun _ _ h => h.elim)).tr hk1 (fun _ h => h)) hC1 (fun k hk => hC1' k hk) HB1.out
  have g5 : w1.cell? ⟨R.sb, 5, none⟩ = some (.int .i64 (R.started + 1)) := s1.cell 5
  have g6 : w1.cell? ⟨R.sb, 6, none⟩ = some (.map (some q)) := s1.cell 6
  have gM : MapAt (Value.int .i64) w1 q (R.copyings.map fun p => (p.1, p.2.val)) := s1.works.copyMap
  have hqs := HSA.out.qsb
  have HSB : Hid (¬ (R.sb ∈ C1 ∨ R.sb = q)) := fun h' => h'.elim (fun hc => (o1 _ hc).1 (by simp [Rep.fp])) (fun e => hqs e)
  have HXB : Hid (¬ (w.heap.size + 1 + 1 ∈ C1 ∨ w.heap.size + 1 + 1 = q)) := fun h' => h'.elim (fun hc => (o1 _ hc).2.2.2.1 rfl) (fun e => HSA.out.q3.2 e.symm)
  have HE := hid (enter_cop (w.heap.size + 1) fs1 C1 q (R.started + 1) _ ((look R.copyings (R.started + 1)).getD Cop.zero) (Cop.new full a b) w1.drew (hC1.kept (Keeps.drew (fun _ => False) _) (fun _ _ h => h)) (gM.kept (Keeps.drew (fun _ => False) _) (fun h => h)) (cops_look _ _) (fun hc => (o1 _ hc).2.2.1 rfl) (by have := HSA.out.few; rw [hf1]; omega))
  have z0 := cell_of_heap x1 0
  have z1 := cell_of_heap x1 1
  have z2 := cell_of_heap x1 2
  have z3 := cell_of_heap x1 3
  have z4 := cell_of_heap x1 4
  have z5 := cell_of_heap x1 5
  have z6 := cell_of_heap x1 6
  simp [Cop.new] at z0 z1 z2 z3 z4 z5 z6
  replace z4 : w1.cell? ⟨w.heap.size + 1 + 1, 4, none⟩ = some (.string { data := #[] }) := z4
  have HX1 := hid x1
  have HS1 := hid s1
  have HO1 := hid o1
  have HKP1 := hid kp1
  have HE1 := hid e1
  clear x1 s1 o1 kp1 e1 gM k5 hk1 hC1' HA
  simp only [Cop.val, Cop.new] at HE
  go_wp2_with fail
  go_region_held3 (fun W => W.cell? ⟨R.sb, 5, none⟩ = some (.int .i64 (R.started + 1)) ∧ W.cell? ⟨R.sb, 6, none⟩ = some (.map (some q)) ∧ W.cell? ⟨w.heap.size + 1 + 1, 0, none⟩ = some (.bool full) ∧ W.cell? ⟨w.heap.size + 1 + 1, 1, none⟩ = some (.int .i64 a) ∧ W.cell? ⟨w.heap.size + 1 + 1, 2, none⟩ = some (.int .i64 b) ∧ W.cell? ⟨w.heap.size + 1 + 1, 3, none⟩ = some (.bool false) ∧ W.cell? ⟨w.heap.size + 1 + 1, 4, none⟩ = some (.string { data := #[] }) ∧ W.cell? ⟨w.heap.size + 1 + 1, 5, none⟩ = some (.int .u32 0) ∧ W.cell? ⟨w.heap.size + 1 + 1, 6, none⟩ = some (.int .i64 0)) (go_keep) (first | (go_at_call 63; refine (HE.out).mono ?_; rintro e w2 ⟨rfl, fs2, C2, hf2, hC2, hk2, hC2', hm2⟩; have q5 := hk2.cell (p := ⟨R.sb, 5, none⟩) ((Keeps.drew (fun _ => False) w1).cell g5 (fun h => h)) HSB.out; have q6 := hk2.cell (p := ⟨R.sb, 6, none⟩) ((Keeps.drew (fun _ => False) w1).cell g6 (fun h => h)) HSB.out; have r0 := hk2.cell (p := ⟨w.heap.size + 1 + 1, 0, none⟩) ((Keeps.drew (fun _ => False) w1).cell z0 (fun h => h)) HXB.out; have r1 := hk2.cell (p := ⟨w.heap.size + 1 + 1, 1, none⟩) ((Keeps.drew (fun _ => False) w1).cell z1 (fun h => h)) HXB.out; have r2 := hk2.cell (p := ⟨w.heap.size + 1 + 1, 2, none⟩) ((Keeps.drew (fun _ => False) w1).cell z2 (fun h => h)) HXB.out; have r3 := hk2.cell (p := ⟨w.heap.size + 1 + 1, 3, none⟩) ((Keeps.drew (fun _ => False) w1).cell z3 (fun h => h)) HXB.out; have r4 := hk2.cell (p := ⟨w.heap.size + 1 + 1, 4, none⟩) ((Keeps.drew (fun _ => False) w1).cell z4 (fun h => h)) HXB.out; have r5 := hk2.cell (p := ⟨w.heap.size + 1 + 1, 5, none⟩) ((Keeps.drew (fun _ => False) w1).cell z5 (fun h => h)) HXB.out; have r6 := hk2.cell (p := ⟨w.heap.size + 1 + 1, 6, none⟩) ((Keeps.drew (fun _ => False) w1).cell z6 (fun h => h)) HXB.out))
  have hE0 : w2.heap[w.heap.size]? = some (.cells #[.int .i64 0] 34 (0, 0)) := by
    rw [hk2.block w.heap.size (by have := (Array.getElem?_eq_some_iff.1 HE1.out).1; exact this) (by rintro (hc | hc); exact absurd (HO1.out _ hc).2.1 (by omega); exact HSA.out.q3.1 hc.symm)]
    exact HE1.out
  have y0 : w2.cell? ⟨w.heap.size, 0, none⟩ = some (.int .i64 0) := cell_of_heap hE0 0
  have y1 : w2.frozen? ⟨w.heap.size, 0, none⟩ = false := frozen_of_heap hE0 0
  have HE0 := hid hE0
  have HM2 := hid hm2
  have HK2 := hid hk2
  clear r0 r1 r2 r3 r4 r5 r6 q6
  clear hE0 hm2 hk2 z0 z1 z2 z3 z4 z5 z6 g5 g6 HE
  go_wp2
  refine leaves_cons (f := 60) (args := #[.pointer (some ⟨w.heap.size + 1, 0, none⟩), .pointer (some ⟨w.heap.size, 0, none⟩)]) (by simp) (by simp [go_sem]) ?_
  have hE2 := heap_setCell_same (i := 0) HE0.out (.int .i64 0)
  refine (start1_ok (w.heap.size + 1) w.heap.size _ ?_).mono ?_
  · exact cell_of_heap hE2 0
  rintro e u' w'' ⟨rfl, rfl, rfl⟩
  have hpost : StartPost R (Cop.new full a b) w (w2.setCell ⟨w.heap.size, 0, none⟩ (.int .i64 0)) := by
    have hm : MapAt (Value.int .i64) w2 q (put (R.copyings.map fun p => (p.1, p.2.val)) (R.started + 1) (Cop.new full a b).val) := HM2.out
    rw [cops_put, put_none HLK.out] at hm
    have s2 := (HS1.out.kept (Keeps.drew (fun _ => False) _) (fun _ _ h => h)).coped (b := q) rfl HK2.out (fun k hk hf => by
      obtain ⟨a1, a2, a3, a4, a5⟩ := HO1.out k hk
      rcases HSA.out.fp k hf with h | h
      · exact a1 h
      · exact a3 h) hm
    refine ⟨some q, s2.kept (Keeps.setCell _ _ _) (fun k hk e => ?_), ?_, ?_⟩
    · have e' : k = w.heap.size := e
      rcases HSA.out.fp k hk with h | h
      · have := HSA.out.old k h
        omega
      · exact HSA.out.q3.1 (by omega)
    · refine ((HKP1.out.mono (T := (· ∈ R.fp)) (fun k _ h => by rw [h]; simp [Rep.fp])).trans ((Keeps.drew (fun _ => False) w1).mono (T := fun k => k ∈ C1 ∨ k = q) (fun _ _ h => h.elim) |>.tr HK2.out (fun _ h => h)) (fun k hk h => ?_)).st (.inl (Nat.le_refl _)) _
      rcases h with h | h
      · have := (HO1.out k h).2.1; omega
      · rcases HSA.out.new with e | ⟨e, h1⟩
        · rw [h]
          exact (fp_split R).mem_iff.2 (List.mem_cons_of_mem _ (List.mem_append_left _ (by simp [pcOf, e])))
        · omega
    · rcases HSA.out.new with e | ⟨e, h1⟩
      · exact .inl e.symm
      · exact .inr ⟨q, rfl, by omega⟩
  have hb := cell_of_heap hE2 0
  generalize w2.setCell ⟨w.heap.size, 0, none⟩ (.int .i64 0) = W3 at hpost hb
  simp at hb
  simp [Leaves, settle, results, Tryz.results32, go_sem, hb]
  exact hpost

end Go.Proofs.YtpagenipflmlfaaGreatDoor

/- A copying: goOn whole, Next. -/

namespace Go.Proofs.YtpagenipflmlfaaGreatDoor

open Go.RowKit Go.Shelf

attribute [local go_sem] Oper.semAt_some

/-- what a copying tells next -/
def tell4 (keys : List ByteArray) (vers : ByteArray → List Ver) (x : Cop) : List RecB := (tellL keys vers x).take 4

theorem atVer_mem {vs : List Ver} {t : Int} {v : Ver} (h : atVer vs t = some v) : v ∈ vs := by
  unfold atVer at h
  split at h
  · cases h
  · exact List.mem_of_getElem? h

theorem tell_mem {keys : List ByteArray} {vers : ByteArray → List Ver} {x : Cop} {r : RecB} (h : r ∈ tellL keys vers x) : ∃ v, r.key ∈ keys ∧ v ∈ vers r.key ∧ r.value = v.value ∧ atVer (vers r.key) x.to = some v ∧ r.gone = v.gone ∧ tellsB x v = true := by
  unfold tellL at h
  obtain ⟨k, hk, h⟩ := List.mem_filterMap.1 h
  have hk' := List.mem_of_mem_drop hk
  unfold tellOf at h
  cases hv : atVer (vers k) x.to with
  | none => rw [hv] at h; cases h
  | some v =>
    rw [hv] at h
    cases ht : tellsB x v with
    | true =>
      have e : r = ⟨k, v.value, v.gone⟩ := by
        simp only [tellV, ht, if_true, Option.some.injEq] at h
        exact h.symm
      subst e
      exact ⟨v, hk', atVer_mem hv, rfl, hv, rfl, ht⟩
    | false =>
      simp only [tellV, ht] at h
      cases h

theorem tell_small {R : Rep} (g : Good R) (x : Cop) : ∀ r ∈ tellL R.keys (versOf R.hist) x, (1 ≤ r.key.size ∧ r.key.size ≤ 10) ∧ r.value.size ≤ 40 := fun r hr => by
  obtain ⟨v, h1, h2, h3, -⟩ := tell_mem hr
  obtain ⟨y, hy⟩ := (g.keys _).1 h1
  have hk := g.hkeys _ (look_mem hy)
  have hv := ((base_vers g r.key).2.1 v h2).2
  unfold keyB at hk
  unfold valB at hv
  rw [h3]
  simp at hk hv
  omega

theorem TurnsAt.lt {w : World} (h : TurnsAt w) : 8 < w.heap.size := World.block_lt_of_cell? _ _ (h 0 (by omega))

theorem goOn_any (R : Rep) (x : Cop) (xb : Nat) (w : World) (h : StoreAt w R) (g : Good R) (hr : Rises R.keys) (hl : R.keys.length ≤ 200000000000) (ok : x.Ok) (ht : TurnsAt w) (hxt : xb ≠ 8) (hx : w.heap[xb]? = some (.cells x.cells 129 (0, 0))) :
    Calls Tryz.prog 66 #[.pointer (some ⟨R.sb, 0, none⟩), .pointer (some ⟨xb, 0, none⟩)] w (GoPost xb (goX x (tell4 R.keys (versOf R.hist) x)) w) := by
  have htt := toTell_any R x 4 w h g hr hl (by omega)
  have hsm : Small (tell4 R.keys (versOf R.hist) x) := fun r hr => by have := tell_small g x r (List.mem_of_mem_take hr); omega
  have hln : (tell4 R.keys (versOf R.hist) x).length ≤ 4 := by unfold tell4; rw [List.length_take]; omega
  rw [show (tellL R.keys (versOf R.hist) x).take 4 = tell4 R.keys (versOf R.hist) x from rfl] at htt
  generalize tell4 R.keys (versOf R.hist) x = recs at *
  obtain ⟨full, xa, xt, xh, xn, xs, xc⟩ := x
  obtain ⟨⟨ha0, ha1⟩, ⟨hb0, hb1⟩, hn, ⟨hs0, hs1⟩, ⟨hc0, hc1⟩⟩ := ok
  simp only at ha0 ha1 hb0 hb1 hs0 hs1 hc0 hc1
  obtain ⟨a, rfl⟩ := Int.eq_ofNat_of_zero_le ha0
  obtain ⟨b, rfl⟩ := Int.eq_ofNat_of_zero_le hb0
  obtain ⟨s, rfl⟩ := Int.eq_ofNat_of_zero_le hs0
  obtain ⟨c, rfl⟩ := Int.eq_ofNat_of_zero_le hc0
  cases xh with
  | false =>
    have := goOn_head R.sb xb full a b s xn c w hx (by omega) (by omega) (by omega) ht hxt
    simpa [goX] using this
  | true =>
    rcases List.eq_nil_or_concat recs with rfl | ⟨l, r, rfl⟩
    · have := goOn_tail R.sb xb full a b s c xn w hx (by omega) (by omega) ht htt
      simpa [goX] using this
    · simp only [List.concat_eq_append] at *
      have := goOn_block R.sb xb full a b s c xn l r w hx (by omega) (by omega) ht hxt (by simp at hln; omega) hsm htt
      have e : goX ⟨full, a, b, true, xn, s, c⟩ (l ++ [r]) = (blockL ((l ++ [r]).map RecB.rec_), false, ⟨full, a, b, true, r.key ++ ⟨#[0]⟩, (ovL s (blockL ((l ++ [r]).map RecB.rec_)) : Nat), ((c + (l.length + 1) : Nat) : Int)⟩) := by
        unfold goX
        rw [if_neg (by simp), if_neg (by simp)]
        simp
      rw [e]
      exact this

set_option maxRecDepth 100000 in
set_option maxHeartbeats 2000000 in
theorem next_none (R : Rep) (n : Int) (w : World) (h : StoreAt w R) (hn : look R.copyings n = none) :
    Calls Tryz.prog 33 #[.pointer (some ⟨R.sb, 0, none⟩), .int .i64 n] w fun e w' => e = .returned (.tuple #[.string ⟨#[]⟩, .bool false, .int .i64 1]) ∧ Keeps (fun _ => False) w w' := by
  have hmf : ∀ (fn : Fn) (first cap : Array Value) (w : World), (Instr.makeFunc fn first cap).run Tryz.prog w = .ok (.func fn first cap) w := fun _ _ _ _ => rfl
  have HF := hid (findCopying_any R n _ (h.kept (((Keeps.refl (fun _ => False) w).al (.cells #[.int .i64 0] 34)).al (.cells #[.slice none 0 0] 69)) (fun _ _ h => h)))
  rw [hn] at HF
  simp only [Option.getD_none, Option.isSome_none, Cop.val, Cop.zero] at HF
  clear h hn
  generalize R.sb = sb at *
  go_enter_defers Tryz.func33, Tryz.ntmps33
  go_wp2_with fail
  refine HF.out.mono ?_
  rintro e w1 ⟨rfl, k1⟩
  have hE0 : w1.heap[w.heap.size]? = some (.cells #[.int .i64 0] 34 (0, 0)) := (k1.block w.heap.size (by simp; omega) (fun h => h)).trans ((Below.heap_alloc _ _ _ (by simp)).trans (heap_new w _))
  have hC0 : w1.heap[w.heap.size + 1]? = some (.cells #[.slice none 0 0] 69 (0, 0)) := (k1.block (w.heap.size + 1) (by simp) (fun h => h)).trans (by have := heap_new (w.alloc (.cells #[.int .i64 0] 34)) (.cells #[.slice none 0 0] 69); simpa using this)
  have hz1 : w.heap.size + 2 ≤ w1.heap.size := by have := k1.size; simp at this; omega
  have y0 : w1.cell? ⟨w.heap.size, 0, none⟩ = some (.int .i64 0) := cell_of_heap hE0 0
  have y1 : w1.frozen? ⟨w.heap.size, 0, none⟩ = false := frozen_of_heap hE0 0
  have HE0 := hid hE0
  have HC0 := hid hC0
  have HK1 := hid k1
  have hzl : w.heap.size < w1.heap.size := by omega
  clear hE0 hC0 k1 HF
  go_wp2
  refine leaves_cons (f := 64) (args := #[.pointer (some ⟨w.heap.size + 1, 0, none⟩), .pointer (some ⟨w.heap.size, 0, none⟩)]) (by simp) (by simp [go_sem]) ?_
  have hEa := heap_setCell_same (i := 0) HE0.out (.int .i64 1)
  have hCa := ((Keeps.setCell w1 ⟨w.heap.size, 0, none⟩ (.int .i64 1)).block (w.heap.size + 1) (Array.getElem?_eq_some_iff.1 HC0.out).1 (by simp)).trans HC0.out
  have hka : Keeps (fun _ => False) w (w1.setCell ⟨w.heap.size, 0, none⟩ (.int .i64 1)) := ((((Keeps.refl (fun _ => False) w).al _).al _).tr HK1.out (fun _ h => h)).st (p := ⟨w.heap.size, 0, none⟩) (.inl (Nat.le_refl _)) _
  generalize w1.setCell ⟨w.heap.size, 0, none⟩ (.int .i64 1) = w2 at *
  refine (next1_none (w.heap.size + 1) w.heap.size 1 (by omega) _ ?_ ?_).mono ?_
  · exact cell_of_heap ((Below.heap_alloc _ _ _ (Array.getElem?_eq_some_iff.1 hCa).1).trans hCa) 0
  · exact cell_of_heap ((Below.heap_alloc _ _ _ (Array.getElem?_eq_some_iff.1 hEa).1).trans hEa) 0
  rintro e u' w'' ⟨rfl, rfl, hk⟩
  have hb : w''.cell? ⟨w.heap.size, 0, none⟩ = some (.int .i64 1) := hk.cell (p := ⟨w.heap.size, 0, none⟩) (cell_of_heap ((Below.heap_alloc _ _ _ (Array.getElem?_eq_some_iff.1 hEa).1).trans hEa) 0) (fun h => h)
  have hkk : Keeps (fun _ => False) w w'' := (hka.al _).tr hk (fun _ h => h)
  simp [Leaves, settle, results, Tryz.results33, go_sem, hb]
  exact hkk

/-- what Next leaves -/
def NextPost (R : Rep) (n : Int) (last : Bool) (x : Cop) (w w' : World) : Prop :=
  StoreAt w' { R with copyings := if last = true then del R.copyings n else put R.copyings n x } ∧ Keeps (· ∈ R.fp) w w'

set_option maxRecDepth 100000 in
set_option maxHeartbeats 4000000 in
theorem next_some (R : Rep) (n : Int) (x : Cop) (w : World) (h : StoreAt w R) (g : Good R) (hr : Rises R.keys) (hl : R.keys.length ≤ 200000000000) (ok : x.Ok) (ht : TurnsAt w) (hn : look R.copyings n = some x) :
    Calls Tryz.prog 33 #[.pointer (some ⟨R.sb, 0, none⟩), .int .i64 n] w fun e w' => e = .returned (.tuple #[.string (ofL (goX x (tell4 R.keys (versOf R.hist) x)).1), .bool (goX x (tell4 R.keys (versOf R.hist) x)).2.1, .int .i64 0]) ∧ NextPost R n (goX x (tell4 R.keys (versOf R.hist) x)).2.1 (goX x (tell4 R.keys (versOf R.hist) x)).2.2 w w' := by
  have hmf : ∀ (fn : Fn) (first cap : Array Value) (w : World), (Instr.makeFunc fn first cap).run Tryz.prog w = .ok (.func fn first cap) w := fun _ _ _ _ => rfl
  obtain ⟨q, hcm⟩ : ∃ q, R.cm = some q := by
    cases hcm : R.cm with
    | some q => exact ⟨q, rfl⟩
    | none =>
      have := h.works.copyMap
      rw [hcm] at this
      have h2 : (R.copyings.map fun p => (p.1, p.2.val)) = [] := this
      have h3 : R.copyings = [] := by simpa using h2
      rw [h3] at hn
      cases hn
  have htl := ht.lt
  have HF := hid (findCopying_any R n _ (h.kept (((Keeps.refl (fun _ => False) w).al (.cells #[.int .i64 0] 34)).al (.cells #[.slice none 0 0] 69)) (fun _ _ h => h)))
  rw [hn] at HF
  simp only [Option.getD_some, Option.isSome_some] at HF
  have HG := hid (fun W xb (hW : Keeps (fun _ => False) w W) (hxb : w.heap.size ≤ xb) (hx : W.heap[xb]? = some (.cells x.cells 129 (0, 0))) => goOn_any R x xb W (h.kept hW (fun _ _ h => h)) g hr hl ok (ht.kept hW (fun h => h)) (by omega) hx)
  have HXV : Hid (x.val = .agg x.cells) := rfl
  have hflt := fp_lt h
  have hsl := h.lt
  have hqf : q ∈ R.fp := (fp_split R).mem_iff.2 (List.mem_cons_of_mem _ (List.mem_append_left _ (by simp [pcOf, hcm])))
  have hql := hflt q hqf
  have hqs : R.sb ≠ q := fun e => by
    have hnd := (fp_split R).nodup_iff.1 h.nodup
    rw [List.nodup_cons] at hnd
    exact hnd.1 (e ▸ List.mem_append_left _ (by simp [pcOf, hcm]))
  have HST := hid h
  have HCM := hid hcm
  have HLK := hid hn
  generalize goX x (tell4 R.keys (versOf R.hist) x) = res at *
  obtain ⟨tx, last, f1, a1, t1, h1, n1, s1, c1⟩ := res
  obtain ⟨xf, xa, xt, xh, xn, xs, xc⟩ := x
  simp only [Cop.val] at HF
  simp only [Cop.cells] at HG
  clear h g hr hl ok ht hcm hn HXV
  go_enter_defers Tryz.func33, Tryz.ntmps33
  go_wp2_with fail
  refine HF.out.mono ?_
  rintro e w1 ⟨rfl, k1⟩
  have kw1 : Keeps (fun _ => False) w w1 := (((Keeps.refl (fun _ => False) w).al _).al _).tr k1 (fun _ h => h)
  have hE0 : w1.heap[w.heap.size]? = some (.cells #[.int .i64 0] 34 (0, 0)) := (k1.block w.heap.size (by simp; omega) (fun h => h)).trans ((Below.heap_alloc _ _ _ (by simp)).trans (heap_new w _))
  have hC0 : Chg w1 (w.heap.size + 1) [] [w.heap.size + 1] := (chg_new w (.cells #[.int .i64 0] 34)).kept k1 (fun _ _ h => h)
  have hz1 : w.heap.size + 2 ≤ w1.heap.size := by have := k1.size; simp at this; omega
  have HG1 := hid (HG.out _ w1.heap.size (kw1.al (.cells #[.bool xf, .int .i64 xa, .int .i64 xt, .bool xh, .string xn, .int .u32 xs, .int .i64 xc] 129)) (by omega) (heap_new w1 _))
  have HE0 := hid hE0
  have HC0 := hid hC0
  have HK1 := hid kw1
  clear hE0 hC0 k1 kw1 HF HG
  go_wp2_with fail
  refine HG1.out.mono ?_
  rintro e w2 ⟨rfl, hx2, k2⟩
  have kw2 : Keeps (fun _ => False) w w2 := (HK1.out.al _).trans k2 (fun k hk h => by omega)
  have hE2 : w2.heap[w.heap.size]? = some (.cells #[.int .i64 0] 34 (0, 0)) := (k2.block w.heap.size (by simp; omega) (by omega)).trans ((Below.heap_alloc _ _ _ (by omega)).trans HE0.out)
  have hC2 : Chg w2 (w.heap.size + 1) [] [w.heap.size + 1] := (HC0.out.kept (Keeps.alloc (fun _ => False) _ _) (fun _ _ h => h)).kept k2 (fun k hk e => by simp at hk; omega)
  have hS2 := HST.out.kept kw2 (fun _ _ h => h)
  have c6 : w2.cell? ⟨R.sb, 6, none⟩ = some (.map (some q)) := (hS2.cell 6).trans (by rw [← HCM.out]; rfl)
  have hM2 : MapAt (Value.int .i64) w2 q (R.copyings.map fun p => (p.1, p.2.val)) := by have := hS2.works.copyMap; rw [HCM.out] at this; exact this
  have hz2 : w1.heap.size + 1 ≤ w2.heap.size := by have := k2.size; simp at this; omega
  obtain ⟨xb, hxb⟩ : ∃ xb, w1.heap.size = xb := ⟨_, rfl⟩
  rw [hxb] at hx2 k2 hz1 hz2 ⊢
  have hxw : w.heap.size + 2 ≤ xb := by omega
  cases last with
  | true =>
    have HR := hid (remove_cop (w.heap.size + 1) [] [w.heap.size + 1] q n _ ((look R.copyings n).getD Cop.zero) w2 hC2 hM2 (cops_look _ _) (by simp; omega) (by simp))
    have HE2 := hid hE2
    have HK2 := hid kw2
    have HS2 := hid hS2
    clear hE2 kw2 hS2 hC2 hM2 k2 hx2 HG1 hxb hz2
    go_wp2_with (go_at_call 67; go_must (refine (HR.out).mono ?_; rintro e w3 ⟨rfl, fs3, C3, hf3, hC3, hk3, hC3', hm3⟩; have hE3 : w3.heap[w.heap.size]? = some (.cells #[.int .i64 0] 34 (0, 0)) := (hk3.block w.heap.size (Array.getElem?_eq_some_iff.1 HE2.out).1 (by rintro (hc | hc); (simp at hc); omega)).trans HE2.out; have y0 : w3.cell? ⟨w.heap.size, 0, none⟩ = some (.int .i64 0) := cell_of_heap hE3 0; have y1 : w3.frozen? ⟨w.heap.size, 0, none⟩ = false := frozen_of_heap hE3 0; have HE3 := hid hE3; have HM3 := hid hm3; have HK3 := hid hk3; clear hE3 hm3 hk3))
    refine leaves_cons (f := 64) (args := #[.pointer (some ⟨w.heap.size + 1, 0, none⟩), .pointer (some ⟨w.heap.size, 0, none⟩)]) (by simp) (by simp [go_sem]) ?_
    have hE4 := heap_setCell_same (i := 0) HE3.out (.int .i64 0)
    refine (next1_ok (w.heap.size + 1) w.heap.size _ ?_).mono ?_
    · exact cell_of_heap hE4 0
    rintro e u' w'' ⟨rfl, rfl, rfl⟩
    have hpost : NextPost R n true ⟨f1, a1, t1, h1, n1, s1, c1⟩ w (w3.setCell ⟨w.heap.size, 0, none⟩ (.int .i64 0)) := by
      have hm := HM3.out
      rw [cops_del] at hm
      have s3 := HS2.out.coped HCM.out HK3.out (fun k hk hf => by have := hflt k hf; simp at hk; omega) hm
      refine ⟨s3.kept (Keeps.setCell _ _ _) (fun k hk e => ?_), ?_⟩
      · have e' : k = w.heap.size := e
        have hk' : k ∈ R.fp := hk
        have := hflt k hk'
        omega
      · refine ((HK2.out.mono (fun _ _ h => h.elim)).trans HK3.out (fun k hk h => ?_)).st (.inl (Nat.le_refl _)) _
        rcases h with h | h
        · simp at h; omega
        · rw [h]; exact hqf
    have hb := cell_of_heap hE4 0
    generalize w3.setCell ⟨w.heap.size, 0, none⟩ (.int .i64 0) = W3 at hpost hb
    simp at hb
    simp [Leaves, settle, results, Tryz.results33, go_sem, hb]
    exact hpost
  | false =>
    have HR := hid (enter_cop (w.heap.size + 1) [] [w.heap.size + 1] q n _ ((look R.copyings n).getD Cop.zero) ⟨f1, a1, t1, h1, n1, s1, c1⟩ w2.drew (hC2.kept (Keeps.drew (fun _ => False) _) (fun _ _ h => h)) (hM2.kept (Keeps.drew (fun _ => False) _) (fun h => h)) (cops_look _ _) (by simp; omega) (by simp))
    have HE2 := hid hE2
    have HK2 := hid kw2
    have HS2 := hid hS2
    have z0 := cell_of_heap hx2 0
    have z1 := cell_of_heap hx2 1
    have z2 := cell_of_heap hx2 2
    have z3 := cell_of_heap hx2 3
    have z4 := cell_of_heap hx2 4
    have z5 := cell_of_heap hx2 5
    have z6 := cell_of_heap hx2 6
    simp [Cop.cells] at z0 z1 z2 z3 z4 z5 z6
    have HSB : Hid (¬ (R.sb ∈ [w.heap.size + 1] ∨ R.sb = q)) := fun h' => h'.elim (fun hc => by simp at hc; omega) (fun e => hqs e)
    have HXB : Hid (¬ (xb ∈ [w.heap.size + 1] ∨ xb = q)) := fun h' => h'.elim (fun hc => by simp at hc; omega) (fun e => by omega)
    simp only [Cop.val] at HR
    clear hE2 kw2 hS2 hC2 hM2 k2 hx2 HG1 hxb hz2
    go_wp2_with fail
    go_region_held3 (fun W => W.cell? ⟨R.sb, 6, none⟩ = some (.map (some q)) ∧ W.cell? ⟨xb, 0, none⟩ = some (.bool f1) ∧ W.cell? ⟨xb, 1, none⟩ = some (.int .i64 a1) ∧ W.cell? ⟨xb, 2, none⟩ = some (.int .i64 t1) ∧ W.cell? ⟨xb, 3, none⟩ = some (.bool h1) ∧ W.cell? ⟨xb, 4, none⟩ = some (.string n1) ∧ W.cell? ⟨xb, 5, none⟩ = some (.int .u32 s1) ∧ W.cell? ⟨xb, 6, none⟩ = some (.int .i64 c1)) (go_keep) (first | (go_at_call 63; refine (HR.out).mono ?_; rintro e w3 ⟨rfl, fs3, C3, hf3, hC3, hk3, hC3', hm3⟩; have q6 := hk3.cell (p := ⟨R.sb, 6, none⟩) ((Keeps.drew (fun _ => False) w2).cell c6 (fun h => h)) HSB.out; have r0 := hk3.cell (p := ⟨xb, 0, none⟩) ((Keeps.drew (fun _ => False) w2).cell z0 (fun h => h)) HXB.out; have r1 := hk3.cell (p := ⟨xb, 1, none⟩) ((Keeps.drew (fun _ => False) w2).cell z1 (fun h => h)) HXB.out; have r2 := hk3.cell (p := ⟨xb, 2, none⟩) ((Keeps.drew (fun _ => False) w2).cell z2 (fun h => h)) HXB.out; have r3 := hk3.cell (p := ⟨xb, 3, none⟩) ((Keeps.drew (fun _ => False) w2).cell z3 (fun h => h)) HXB.out; have r4 := hk3.cell (p := ⟨xb, 4, none⟩) ((Keeps.drew (fun _ => False) w2).cell z4 (fun h => h)) HXB.out; have r5 := hk3.cell (p := ⟨xb, 5, none⟩) ((Keeps.drew (fun _ => False) w2).cell z5 (fun h => h)) HXB.out; have r6 := hk3.cell (p := ⟨xb, 6, none⟩) ((Keeps.drew (fun _ => False) w2).cell z6 (fun h => h)) HXB.out))
    have hE3 : w3.heap[w.heap.size]? = some (.cells #[.int .i64 0] 34 (0, 0)) := (hk3.block w.heap.size (Array.getElem?_eq_some_iff.1 HE2.out).1 (by rintro (hc | hc); (simp at hc); omega)).trans HE2.out
    have y0 : w3.cell? ⟨w.heap.size, 0, none⟩ = some (.int .i64 0) := cell_of_heap hE3 0
    have y1 : w3.frozen? ⟨w.heap.size, 0, none⟩ = false := frozen_of_heap hE3 0
    have HE3 := hid hE3
    have HM3 : Hid (MapAt (Value.int .i64) w3 q (put (R.copyings.map fun p => (p.1, p.2.val)) n (Cop.val ⟨f1, a1, t1, h1, n1, s1, c1⟩))) := hm3
    have HK3 := hid hk3
    clear hE3 hm3 hk3 r0 r1 r2 r3 r4 r5 r6 q6 z0 z1 z2 z3 z4 z5 z6 c6
    go_wp2
    refine leaves_cons (f := 64) (args := #[.pointer (some ⟨w.heap.size + 1, 0, none⟩), .pointer (some ⟨w.heap.size, 0, none⟩)]) (by simp) (by simp [go_sem]) ?_
    have hE4 := heap_setCell_same (i := 0) HE3.out (.int .i64 0)
    refine (next1_ok (w.heap.size + 1) w.heap.size _ ?_).mono ?_
    · exact cell_of_heap hE4 0
    rintro e u' w'' ⟨rfl, rfl, rfl⟩
    have hpost : NextPost R n false ⟨f1, a1, t1, h1, n1, s1, c1⟩ w (w3.setCell ⟨w.heap.size, 0, none⟩ (.int .i64 0)) := by
      have hm := HM3.out
      rw [cops_put] at hm
      have s3 := (HS2.out.kept (Keeps.drew (fun _ => False) _) (fun _ _ h => h)).coped HCM.out HK3.out (fun k hk hf => by have := hflt k hf; simp at hk; omega) hm
      refine ⟨s3.kept (Keeps.setCell _ _ _) (fun k hk e => ?_), ?_⟩
      · have e' : k = w.heap.size := e
        have hk' : k ∈ R.fp := hk
        have := hflt k hk'
        omega
      · refine (((HK2.out.dr).mono (fun _ _ h => h.elim)).trans HK3.out (fun k hk h => ?_)).st (.inl (Nat.le_refl _)) _
        rcases h with h | h
        · simp at h; omega
        · rw [h]; exact hqf
    have hb := cell_of_heap hE4 0
    generalize w3.setCell ⟨w.heap.size, 0, none⟩ (.int .i64 0) = W3 at hpost hb
    simp at hb
    simp [Leaves, settle, results, Tryz.results33, go_sem, hb]
    exact hpost

end Go.Proofs.YtpagenipflmlfaaGreatDoor
