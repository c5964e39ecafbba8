import Derived.Test.YtfcocbcihhdbkaaGreatDoorM16

/- Pin, Unpin. -/
namespace Go.Proofs.YtfcocbcihhdbkaaGreatDoor
open Go.RowKit Go.Shelf

theorem eqMapP_some (b : Nat) (w : World) : (binOp BinOp.eql 106 (.map (some b)) (.map none)).run Tryz.prog w = .ok (.bool false) w := by kernel_rfl
theorem eqMapP_none (w : World) : (binOp BinOp.eql 106 (.map none) (.map none)).run Tryz.prog w = .ok (.bool true) w := by kernel_rfl

set_option maxRecDepth 100000 in
set_option maxHeartbeats 400000 in
theorem has_any (R : Rep) (s : Int) (w : World) (h : StoreAt w R) :
    Calls Tryz.prog 52 #[.pointer (some ⟨R.sb, 0, none⟩), .int .i64 s] w fun e w' => e = .returned (.bool (decide (R.floor ≤ s) && decide (s ≤ R.now))) ∧ w' = w := by
  have c0 : w.cell? ⟨R.sb, 0, none⟩ = some (.int .i64 R.now) := h.cell 0
  have c1 : w.cell? ⟨R.sb, 1, none⟩ = some (.int .i64 R.floor) := h.cell 1
  clear h
  by_cases h1 : R.floor ≤ s
  · have e1 : decide (R.floor ≤ s) = true := decide_eq_true h1
    go_enter Tryz.func52, Tryz.ntmps52
    go_wp2
    go_ret
    exact ⟨by simp [h1], rfl⟩
  · have e1 : decide (R.floor ≤ s) = false := decide_eq_false h1
    go_enter Tryz.func52, Tryz.ntmps52
    go_wp2
    go_ret
    exact ⟨by simp, rfl⟩

/-- Pins, copyings and the last copying's number are others; all else lies as it lay. -/
theorem StoreAt.side {w w' : World} {R : Rep} {S : Nat → Prop} (h : StoreAt w R) (pm cm : Option Nat) (pins : List (Int × Int)) (started : Int) (copyings : List (Int × Cop)) (hk : Keeps S w w')
    (hS : ∀ k ∈ R.wm.toList ++ R.works.flatMap (fun p => [p.2.blk, p.2.mb]) ++ R.fpPast, ¬ S k)
    (htop : w'.heap[R.sb]? = some (.cells (topCells { R with pm, pins, started, cm, copyings }) 112 (0, 0)))
    (hp : OptMap (Value.int .i64) w' pm (pins.map fun p => (p.1, .int .i64 p.2))) (hc : OptMap (Value.int .i64) w' cm (copyings.map fun p => (p.1, p.2.val))) (hn : (Rep.fp { R with pm, pins, started, cm, copyings }).Nodup) :
    StoreAt w' { R with pm, pins, started, cm, copyings } := by
  have hSw : ∀ k ∈ R.wm.toList, ¬ S k := fun k hk' => hS k (List.mem_append_left _ (List.mem_append_left _ hk'))
  have hSx : ∀ k ∈ R.works.flatMap (fun p => [p.2.blk, p.2.mb]), ¬ S k := fun k hk' => hS k (List.mem_append_left _ (List.mem_append_right _ hk'))
  have hSp : ∀ k ∈ R.fpPast, ¬ S k := fun k hk' => hS k (List.mem_append_right _ hk')
  refine ⟨htop, ⟨h.works.worksMap.kept hk (fun b hb => hSw b (by simp [hb])), fun p hp' => ?_, hp, hc⟩, h.past.kept hk (fun k hk' => hSp k hk'), hn⟩
  obtain ⟨h1, h2⟩ := h.works.worksEach p hp'
  have hm : ∀ k, k = p.2.blk ∨ k = p.2.mb → ¬ S k := fun k hk' => hSx k (List.mem_flatMap.2 ⟨p, hp', by simpa using hk'⟩)
  exact ⟨(hk.block _ (Array.getElem?_eq_some_iff.1 h1).1 (hm _ (.inl rfl))).trans h1, h2.kept hk (hm _ (.inr rfl))⟩

/-- the blocks that a store has beside its own and those of pins and copyings -/
theorem fp_split (R : Rep) : R.fp.Perm (R.sb :: (pcOf R.pm R.cm ++ (R.wm.toList ++ R.works.flatMap (fun p => [p.2.blk, p.2.mb]) ++ R.fpPast))) := by
  unfold Rep.fp Rep.fpWorks
  refine List.Perm.cons _ ?_
  simp only [List.append_assoc]
  refine (List.perm_append_comm_assoc _ _ _).trans ?_
  exact List.Perm.refl _

/-- what Pin and Unpin leave -/
def PinPost (R : Rep) (pins : List (Int × Int)) (w w' : World) : Prop :=
  ∃ pm, StoreAt w' { R with pm := pm, pins := pins } ∧ Keeps (· ∈ R.fp) w w' ∧ (pm = R.pm ∨ ∃ q, pm = some q ∧ w.heap.size ≤ q)

/-- the map of the pins is written -/
theorem StoreAt.pinned {w w' : World} {R : Rep} {C : List Nat} {b : Nat} {pins : List (Int × Int)} (h : StoreAt w R) (hpm : R.pm = some b) (hk : Keeps (fun k => k ∈ C ∨ k = b) w w') (hC : ∀ k ∈ C, k ∉ R.fp) (hm : MapAt (Value.int .i64) w' b (pins.map fun p => (p.1, .int .i64 p.2))) : StoreAt w' { R with pins := pins } := by
  have hnd := (fp_split R).nodup_iff.1 h.nodup
  have hb : b ∈ pcOf R.pm R.cm := by simp [pcOf, hpm]
  have hbf : b ∈ R.fp := (fp_split R).mem_iff.2 (List.mem_cons_of_mem _ (List.mem_append_left _ hb))
  have hsb : ¬ (R.sb ∈ C ∨ R.sb = b) := by
    rintro (hc | e)
    · exact hC _ hc (by simp [Rep.fp])
    · rw [List.nodup_cons] at hnd
      exact hnd.1 (e ▸ List.mem_append_left _ hb)
  have := h.side R.pm R.cm pins R.started R.copyings hk (fun k hk' => ?_) ((hk.block _ h.lt hsb).trans h.top) (by rw [hpm]; exact hm) (h.works.copyMap.kept hk (fun c hc => ?_)) h.nodup
  · exact this
  · rintro (hc | e)
    · exact hC k hc ((fp_split R).mem_iff.2 (List.mem_cons_of_mem _ (List.mem_append_right _ hk')))
    · subst e
      rw [List.nodup_cons, List.nodup_append] at hnd
      exact hnd.2.2.2 k hb k hk' rfl
  · have hcm : c ∈ pcOf R.pm R.cm := by simp [pcOf, hc]
    rintro (hc' | e)
    · exact hC c hc' ((fp_split R).mem_iff.2 (List.mem_cons_of_mem _ (List.mem_append_left _ hcm)))
    · rw [List.nodup_cons, List.nodup_append] at hnd
      have h3 := hnd.2.1
      unfold pcOf at h3
      rw [hpm, hc, e] at h3
      simp at h3

theorem fp_pm {R : Rep} (hpm : R.pm = none) (q : Nat) : (Rep.fp { R with pm := some q }).Perm (q :: R.fp) := by
  refine (fp_split _).trans (List.Perm.trans ?_ ((fp_split R).symm.cons _))
  simp only [pcOf, hpm, Option.toList_some, Option.toList_none, List.nil_append, List.cons_append]
  exact List.Perm.swap _ _ _

/-- .. or made -/
theorem StoreAt.pinsMade {w w' : World} {R : Rep} {C : List Nat} {q : Nat} (h : StoreAt w R) (hpm : R.pm = none) (hk : Keeps (fun k => k ∈ C ∨ k = R.sb) w w') (hC : ∀ k ∈ C, k ∉ R.fp) (hq : MapAt (Value.int .i64) w q ([] : List (Int × Value))) (hqC : q ∉ C) (hqf : q ∉ R.fp) (hb : w'.heap[R.sb]? = (w.setCell ⟨R.sb, 4, none⟩ (.map (some q))).heap[R.sb]?) : StoreAt w' { R with pm := some q } := by
  have hpins : R.pins = [] := by
    have := h.works.pinsMap
    rw [hpm] at this
    have h2 : (R.pins.map fun p => (p.1, Value.int .i64 p.2)) = [] := this
    simpa using h2
  have hnd := (fp_split R).nodup_iff.1 h.nodup
  have hnk : ∀ k ∈ R.fp, k ≠ R.sb → ¬ (k ∈ C ∨ k = R.sb) := fun k hk' hne => by
    rintro (hc | e)
    · exact hC k hc hk'
    · exact hne e
  have hne : ∀ k ∈ pcOf R.pm R.cm ++ (R.wm.toList ++ R.works.flatMap (fun p => [p.2.blk, p.2.mb]) ++ R.fpPast), k ≠ R.sb := fun k hk' e => by
    rw [List.nodup_cons] at hnd
    exact hnd.1 (e ▸ hk')
  have hmem : ∀ k ∈ pcOf R.pm R.cm ++ (R.wm.toList ++ R.works.flatMap (fun p => [p.2.blk, p.2.mb]) ++ R.fpPast), k ∈ R.fp := fun k hk' => (fp_split R).mem_iff.2 (List.mem_cons_of_mem _ hk')
  have := h.side (some q) R.cm R.pins R.started R.copyings hk (fun k hk' => hnk k (hmem k (List.mem_append_right _ hk')) (hne k (List.mem_append_right _ hk'))) ?_ ?_ (h.works.copyMap.kept hk (fun c hc => ?_)) ((fp_pm hpm q).nodup_iff.2 (List.nodup_cons.2 ⟨hqf, h.nodup⟩))
  · exact this
  · rw [hb]
    exact h.set (R' := { R with pm := some q }) (i := 4) (v := .map (some q)) rfl (by simp [topCells])
  · rw [hpins]
    exact MapAt.kept hq hk (by
      rintro (hc | e)
      · exact hqC hc
      · exact hqf (by rw [e]; simp [Rep.fp]))
  · have hcm : c ∈ pcOf R.pm R.cm := by simp [pcOf, hc]
    exact hnk c (hmem c (List.mem_append_left _ hcm)) (hne c (List.mem_append_left _ hcm))

set_option maxRecDepth 100000 in
set_option maxHeartbeats 400000 in
theorem pin_bad (R : Rep) (s : Int) (w : World) (h : StoreAt w R) (hs : (decide (R.floor ≤ s) && decide (s ≤ R.now)) = false) :
    Calls Tryz.prog 18 #[.pointer (some ⟨R.sb, 0, none⟩), .int .i64 s] w fun e w' => e = .returned (.int .i64 5) ∧ Keeps (fun _ => False) w w' := by
  have hmf : ∀ (fn : Fn) (first cap : Array Value) (w : World), (Instr.makeFunc fn first cap).run Tryz.prog w = .ok (.func fn first cap) w := fun _ _ _ _ => rfl
  have hh := has_any R s _ (h.kept (((Keeps.refl (fun _ => False) w).al (.cells #[.int .i64 0] 53)).al (.cells #[.slice none 0 0] 115)) (fun _ _ h => h))
  rw [hs] at hh
  have HH := hid hh
  clear hs h hh
  generalize R.sb = sb at *
  go_enter_defers Tryz.func18, Tryz.ntmps18
  go_wp2_with (go_at_call 52; go_must (refine (HH.out).mono ?_; rintro e w1 ⟨rfl, rfl⟩))
  refine leaves_cons (f := 50) (args := #[.pointer (some ⟨w.heap.size + 1, 0, none⟩), .pointer (some ⟨w.heap.size, 0, none⟩)]) (by simp) (by simp [go_sem]) ?_
  refine (pin1_none (w.heap.size + 1) w.heap.size 5 (by omega) _ ?_ ?_).mono ?_
  · simp [go_sem]
  · simp [go_sem]
  rintro e u' w'' ⟨rfl, rfl, hk⟩
  have hb : w''.cell? ⟨w.heap.size, 0, none⟩ = some (.int .i64 5) := hk.cell (p := ⟨w.heap.size, 0, none⟩) (by simp [go_sem]) (fun h => h)
  simp [Leaves, settle, results, Tryz.results18, go_sem, hb]
  exact (((Keeps.refl _ w).al _).al _).tr hk (fun _ h => h)

theorem pins_put (l : List (Int × Int)) (s c : Int) : put (l.map fun p => (p.1, Value.int .i64 p.2)) s (.int .i64 c) = (put l s c).map fun p => (p.1, .int .i64 p.2) := put_map (fun z : Int => Value.int .i64 z) l s c

set_option maxRecDepth 100000 in
set_option maxHeartbeats 1000000 in
theorem pin_some (R : Rep) (s : Int) (w : World) (h : StoreAt w R) (b : Nat) (hpm : R.pm = some b) (hs : (decide (R.floor ≤ s) && decide (s ≤ R.now)) = true) (hc1 : 0 ≤ (look R.pins s).getD 0) (hc2 : (look R.pins s).getD 0 ≤ 1000000000000000) :
    Calls Tryz.prog 18 #[.pointer (some ⟨R.sb, 0, none⟩), .int .i64 s] w fun e w' => e = .returned (.int .i64 0) ∧ PinPost R (put R.pins s ((look R.pins s).getD 0 + 1)) w w' := by
  have hmf : ∀ (fn : Fn) (first cap : Array Value) (w : World), (Instr.makeFunc fn first cap).run Tryz.prog w = .ok (.func fn first cap) w := fun _ _ _ _ => rfl
  have hem := eqMapP_some
  have hk0 : Keeps (fun _ => False) w ((w.alloc (.cells #[.int .i64 0] 53)).alloc (.cells #[.slice none 0 0] 115)) := ((Keeps.refl (fun _ => False) w).al _).al _
  have hW := h.kept hk0 (fun _ _ h => h)
  have hh := has_any R s _ hW
  rw [hs] at hh
  have HH := hid hh
  have hbf : b ∈ R.fp := (fp_split R).mem_iff.2 (List.mem_cons_of_mem _ (List.mem_append_left _ (by simp [pcOf, hpm])))
  have hbl := fp_lt h _ hbf
  have hlt := h.lt
  have hnb : R.sb ≠ b := fun e => by
    have hnd := (fp_split R).nodup_iff.1 h.nodup
    rw [List.nodup_cons] at hnd
    exact hnd.1 (e ▸ List.mem_append_left _ (by simp [pcOf, hpm]))
  have c4 : w.cell? ⟨R.sb, 4, none⟩ = some (.map (some b)) := (h.cell 4).trans (by rw [← hpm]; rfl)
  have hM : MapAt (Value.int .i64) ((w.alloc (.cells #[.int .i64 0] 53)).alloc (.cells #[.slice none 0 0] 115)) b (R.pins.map fun p => (p.1, .int .i64 p.2)) := by have := hW.works.pinsMap; rw [hpm] at this; exact this
  obtain ⟨c, hc⟩ : ∃ c, (look R.pins s).getD 0 = c := ⟨_, rfl⟩
  rw [hc] at hc1 hc2
  have HC := hid hc
  have hlk0 : (look (R.pins.map fun p => (p.1, Value.int .i64 p.2)) s).getD (.int .i64 0) = .int .i64 c := by
    rw [look_map (fun z : Int => Value.int .i64 z), ← hc]
    cases look R.pins s <;> rfl
  have hlk := (hM.kept (Keeps.drew (fun _ => False) _) (fun h => h)).lookup (P := Tryz.prog) (t := 106) intKeyOk Tryz.underlying106 Tryz.underlying3 (Tryz.zeroIntV _) s false
  simp only [Bool.false_eq_true, if_false, hlk0] at hlk
  have HWR := hid (show IntKind.i64.wrap (c + 1) = c + 1 from IntWalk.i64_in _ ⟨by omega, by omega⟩)
  have hE := enter_pin (w.heap.size + 1) [] [w.heap.size + 1] b s _ c (IntKind.i64.wrap (c + 1)) _ ((chg_new w (.cells #[.int .i64 0] 53)).kept (Keeps.drew (fun _ => False) _) (fun _ _ h => h)) (hM.kept (Keeps.drew (fun _ => False) _) (fun h => h)) hlk0 (by simp; omega) (by simp)
  have HE := hid hE
  have HST := hid h
  have HPM := hid hpm
  have HW := hid hW
  have HK0 := hid hk0
  clear hs h hh hM hpm hE hlk0 hW hc hk0
  go_enter_defers Tryz.func18, Tryz.ntmps18
  go_wp2_with (go_at_call 52; go_must (refine (HH.out).mono ?_; rintro e w1 ⟨rfl, rfl⟩))
  go_region_held3 (fun W => W.cell? ⟨R.sb, 4, none⟩ = some (.map (some b))) (go_keep) (first | (go_at_call 54; refine (HE.out).mono ?_; rintro e w2 ⟨rfl, fs2, C2, hf2, hC2, hk2, hC2', hm2⟩; rw [HWR.out] at hm2; have q4 := hk2.cell (p := ⟨R.sb, 4, none⟩) ((((Keeps.refl (fun _ => False) w).al _).al _).dr.cell c4 (fun h => h)) (by rintro (e | e); ((simp at e); omega); exact hnb e)))
  have hE0 : w2.heap[w.heap.size]? = some (.cells #[.int .i64 0] 53 (0, 0)) := by
    rw [hk2.block w.heap.size (by simp [World.drew]; omega) (by rintro (hc | hc); (simp at hc); omega)]
    exact (Below.heap_alloc _ _ _ (by simp)).trans (heap_new w _)
  have y0 : w2.cell? ⟨w.heap.size, 0, none⟩ = some (.int .i64 0) := cell_of_heap hE0 0
  have y1 : w2.frozen? ⟨w.heap.size, 0, none⟩ = false := frozen_of_heap hE0 0
  have HE0 := hid hE0
  have HM2 := hid hm2
  have HK2 := hid hk2
  clear hE0 hm2 hk2 hlk
  go_wp2
  refine leaves_cons (f := 50) (args := #[.pointer (some ⟨w.heap.size + 1, 0, none⟩), .pointer (some ⟨w.heap.size, 0, none⟩)]) (by simp) (by simp [go_sem]) ?_
  have hE1 := heap_setCell_same (i := 0) HE0.out (.int .i64 0)
  refine (pin1_ok (w.heap.size + 1) w.heap.size _ ?_).mono ?_
  · exact cell_of_heap hE1 0
  rintro e u' w'' ⟨rfl, rfl, rfl⟩
  have hpost : PinPost R (put R.pins s ((look R.pins s).getD 0 + 1)) w (w2.setCell ⟨w.heap.size, 0, none⟩ (.int .i64 0)) := by
    have hm := HM2.out
    rw [pins_put] at hm
    have s1 := (HW.out.kept (Keeps.drew (fun _ => False) _) (fun _ _ h => h)).pinned HPM.out HK2.out (fun k hk hf => by have := fp_lt HST.out k hf; simp at hk; omega) hm
    rw [HC.out]
    refine ⟨R.pm, s1.kept (Keeps.setCell _ _ _) (fun k hk e => ?_), ?_, .inl rfl⟩
    · have e' : k = w.heap.size := e
      have hk' : k ∈ R.fp := hk
      have := fp_lt HST.out k hk'
      omega
    · refine (((HK0.out.dr).mono (fun _ _ h => h.elim)).trans HK2.out (fun k hk h => ?_)).st (.inl (Nat.le_refl _)) _
      rcases h with h | h
      · simp at h; omega
      · rw [h]; exact hbf
  have hb := cell_of_heap hE1 0
  generalize w2.setCell ⟨w.heap.size, 0, none⟩ (.int .i64 0) = W3 at hpost hb
  simp at hb
  simp [Leaves, settle, results, Tryz.results18, go_sem, hb]
  exact hpost

end Go.Proofs.YtfcocbcihhdbkaaGreatDoor

/- Pin of a store that has none; Unpin. -/
namespace Go.Proofs.YtfcocbcihhdbkaaGreatDoor
open Go.RowKit Go.Shelf

set_option maxRecDepth 100000 in
set_option maxHeartbeats 1000000 in
theorem pin_new (R : Rep) (s : Int) (w : World) (h : StoreAt w R) (hpm : R.pm = none) (hs : (decide (R.floor ≤ s) && decide (s ≤ R.now)) = true) :
    Calls Tryz.prog 18 #[.pointer (some ⟨R.sb, 0, none⟩), .int .i64 s] w fun e w' => e = .returned (.int .i64 0) ∧ R.pins = [] ∧ PinPost R [(s, 1)] w w' := by
  have hmf : ∀ (fn : Fn) (first cap : Array Value) (w : World), (Instr.makeFunc fn first cap).run Tryz.prog w = .ok (.func fn first cap) w := fun _ _ _ _ => rfl
  have hmm := @run_makeMap Tryz.prog
  have hem := eqMapP_none
  have hpins : R.pins = [] := by
    have := h.works.pinsMap
    rw [hpm] at this
    have h2 : (R.pins.map fun p => (p.1, Value.int .i64 p.2)) = [] := this
    simpa using h2
  have hk0 : Keeps (fun _ => False) w ((w.alloc (.cells #[.int .i64 0] 53)).alloc (.cells #[.slice none 0 0] 115)) := ((Keeps.refl (fun _ => False) w).al _).al _
  have hW := h.kept hk0 (fun _ _ h => h)
  have hh := has_any R s _ hW
  rw [hs] at hh
  have HH := hid hh
  have hlt := h.lt
  have c4 : w.cell? ⟨R.sb, 4, none⟩ = some (.map none) := (h.cell 4).trans (by rw [← hpm]; rfl)
  have hWm := hW.kept (Keeps.alloc (fun _ => False) _ (.map #[] 0)) (fun _ _ h => h)
  have HAS := hid (assign_pins (w.heap.size + 1) [] [w.heap.size + 1] R.sb 4 none (some (w.heap.size + 1 + 1)) _ ((chg_new w (.cells #[.int .i64 0] 53)).kept (Keeps.alloc (fun _ => False) _ (.map #[] 0)) (fun _ _ h => h)) ((hWm.cell 4).trans (by rw [← hpm]; rfl)) (hWm.frozen 4) (by simp; omega) (by simp))
  have HST := hid h
  have HPM := hid hpm
  have HPINS := hid hpins
  have HWM := hid hWm
  clear hs h hh hpm hW hk0 hpins hWm
  go_enter_defers Tryz.func18, Tryz.ntmps18
  go_wp2_with (first
    | (go_at_call 52; go_must (refine (HH.out).mono ?_; rintro e w1 ⟨rfl, rfl⟩))
    | (go_at_call 53; go_must (refine (HAS.out).mono ?_; rintro e w0 ⟨rfl, fs0, C0, hf0, hC0, hk0, hC0', hb0⟩; have HB0 := hid hb0; clear hb0)))
  have hflt := fp_lt HST.out
  have HC0 : Hid (∀ k ∈ C0, k ∉ R.fp ∧ w.heap.size < k ∧ k ≠ w.heap.size + 1 + 1 ∧ k < w0.heap.size) := fun k hk => by
    have hl0 := hC0.lt k hk
    rcases hC0' k hk with h' | h'
    · simp at h'
      exact ⟨fun hf => by have := hflt k hf; omega, by omega, by omega, hl0⟩
    · simp at h'
      exact ⟨fun hf => by have := hflt k hf; omega, by omega, by omega, hl0⟩
  have hq0 : MapAt (Value.int .i64) (((w.alloc (.cells #[.int .i64 0] 53)).alloc (.cells #[.slice none 0 0] 115)).alloc (.map #[] 0)) (w.heap.size + 1 + 1) [] := by
    have := MapAt.made (Value.int .i64) ((w.alloc (.cells #[.int .i64 0] 53)).alloc (.cells #[.slice none 0 0] 115))
    simpa using this
  have hqf : w.heap.size + 1 + 1 ∉ R.fp := fun hf => by have := hflt _ hf; omega
  have HS0 := hid (HWM.out.pinsMade HPM.out hk0 (fun k hk hf => by have := hflt k hf; simp at hk; omega) hq0 (by simp) hqf HB0.out)
  have hz0 : w.heap.size + 3 ≤ w0.heap.size := by have := hk0.size; simp at this; omega
  have hm0 : MapAt (Value.int .i64) w0 (w.heap.size + 1 + 1) ([] : List (Int × Value)) := by
    have := HS0.out.works.pinsMap
    rw [HPINS.out] at this
    exact this
  have d4 : w0.cell? ⟨R.sb, 4, none⟩ = some (.map (some (w.heap.size + 1 + 1))) := HS0.out.cell 4
  have hlk := (hm0.kept (Keeps.drew (fun _ => False) _) (fun h => h)).lookup (P := Tryz.prog) (t := 106) intKeyOk Tryz.underlying106 Tryz.underlying3 (Tryz.zeroIntV _) s false
  simp only [Bool.false_eq_true, if_false, look, Option.getD_none] at hlk
  have HE := hid (enter_pin (w.heap.size + 1) fs0 C0 (w.heap.size + 1 + 1) s [] 0 1 w0.drew (hC0.kept (Keeps.drew (fun _ => False) _) (fun _ _ h => h)) (hm0.kept (Keeps.drew (fun _ => False) _) (fun h => h)) rfl (fun hc => (HC0.out _ hc).2.2.1 rfl) (by rw [hf0]; simp))
  have HKW : Hid (Keeps (fun k => k = R.sb) w w0) := (((Keeps.refl (fun k => k = R.sb) w).al _).al _).al _ |>.trans hk0 (fun k hk h => by
    rcases h with h | h
    · simp at h; omega
    · exact h)
  have HE00 : Hid (w0.heap[w.heap.size]? = some (.cells #[.int .i64 0] 53 (0, 0))) := by
    rw [hk0.block w.heap.size (by simp; omega) (by rintro (hc | hc); (simp at hc); omega)]
    exact (Below.heap_alloc _ _ _ (by simp; omega)).trans ((Below.heap_alloc _ _ _ (by simp)).trans (heap_new w _))
  clear hm0 hq0 hk0 hC0 c4 HAS
  go_wp2_with fail
  go_region_held3 (fun W => W.cell? ⟨R.sb, 4, none⟩ = some (.map (some (w.heap.size + 1 + 1)))) (go_keep) (first | (go_at_call 54; refine (HE.out).mono ?_; rintro e w2 ⟨rfl, fs2, C2, hf2, hC2, hk2, hC2', hm2⟩; have q4 := hk2.cell (p := ⟨R.sb, 4, none⟩) ((Keeps.drew (fun _ => False) w0).cell (p := ⟨R.sb, 4, none⟩) d4 (fun h => h)) (by rintro (e | e); exact (HC0.out _ e).1 (by simp [Rep.fp]); (have e' : R.sb = w.heap.size + 1 + 1 := e; omega))))
  have hE0 : w2.heap[w.heap.size]? = some (.cells #[.int .i64 0] 53 (0, 0)) := by
    rw [hk2.block w.heap.size (by show _ < w0.heap.size; omega) (by rintro (hc | hc); exact absurd (HC0.out _ hc).2.1 (by omega); omega)]
    exact HE00.out
  have y0 : w2.cell? ⟨w.heap.size, 0, none⟩ = some (.int .i64 0) := cell_of_heap hE0 0
  have y1 : w2.frozen? ⟨w.heap.size, 0, none⟩ = false := frozen_of_heap hE0 0
  have HE0 := hid hE0
  have HM2 := hid hm2
  have HK2 := hid hk2
  clear hE0 hm2 hk2 hlk d4
  go_wp2
  refine leaves_cons (f := 50) (args := #[.pointer (some ⟨w.heap.size + 1, 0, none⟩), .pointer (some ⟨w.heap.size, 0, none⟩)]) (by simp) (by simp [go_sem]) ?_
  have hE1 := heap_setCell_same (i := 0) HE0.out (.int .i64 0)
  refine (pin1_ok (w.heap.size + 1) w.heap.size _ ?_).mono ?_
  · exact cell_of_heap hE1 0
  rintro e u' w'' ⟨rfl, rfl, rfl⟩
  have hpost : PinPost R [(s, 1)] w (w2.setCell ⟨w.heap.size, 0, none⟩ (.int .i64 0)) := by
    have hfq : ∀ k ∈ Rep.fp { R with pm := some (w.heap.size + 1 + 1) }, k ∈ R.fp ∨ k = w.heap.size + 1 + 1 := fun k hk => by
      rcases List.mem_cons.1 ((fp_pm HPM.out _).mem_iff.1 hk) with e | h
      · exact .inr e
      · exact .inl h
    have s1 := (HS0.out.kept (Keeps.drew (fun _ => False) _) (fun _ _ h => h)).pinned (b := w.heap.size + 1 + 1) (pins := [(s, 1)]) rfl HK2.out (fun k hk hf => by
      obtain ⟨a1, a2, a3, a4⟩ := HC0.out k hk
      rcases hfq k hf with h | h
      · exact a1 h
      · exact a3 h) HM2.out
    refine ⟨some (w.heap.size + 1 + 1), s1.kept (Keeps.setCell _ _ _) (fun k hk e => ?_), ?_, .inr ⟨_, rfl, by omega⟩⟩
    · have e' : k = w.heap.size := e
      rcases hfq k hk with h | h
      · have := fp_lt HST.out k h
        omega
      · omega
    · refine ((HKW.out.mono (T := (· ∈ R.fp)) (fun k _ h => by rw [h]; simp [Rep.fp])).trans ((Keeps.drew (fun _ => False) w0).mono (T := fun k => k ∈ C0 ∨ k = w.heap.size + 1 + 1) (fun _ _ h => h.elim) |>.tr HK2.out (fun _ h => h)) (fun k hk h => ?_)).st (.inl (Nat.le_refl _)) _
      rcases h with h | h
      · have := (HC0.out k h).2.1; omega
      · omega
  have hb := cell_of_heap hE1 0
  generalize w2.setCell ⟨w.heap.size, 0, none⟩ (.int .i64 0) = W3 at hpost hb
  simp at hb
  simp [Leaves, settle, results, Tryz.results18, go_sem, hb]
  exact ⟨HPINS.out, hpost⟩

theorem pins_look (l : List (Int × Int)) (s : Int) : (look (l.map fun p => (p.1, Value.int .i64 p.2)) s).getD (.int .i64 0) = .int .i64 ((look l s).getD 0) := by
  rw [look_map (fun z : Int => Value.int .i64 z)]
  cases look l s <;> rfl

set_option maxRecDepth 100000 in
set_option maxHeartbeats 400000 in
theorem unpin_none (R : Rep) (s : Int) (w : World) (h : StoreAt w R) (hs : (look R.pins s).getD 0 = 0) :
    Calls Tryz.prog 26 #[.pointer (some ⟨R.sb, 0, none⟩), .int .i64 s] w fun e w' => e = .returned (.int .i64 1) ∧ Keeps (fun _ => False) w w' := by
  have hmf : ∀ (fn : Fn) (first cap : Array Value) (w : World), (Instr.makeFunc fn first cap).run Tryz.prog w = .ok (.func fn first cap) w := fun _ _ _ _ => rfl
  have hW := h.kept (((Keeps.refl (fun _ => False) w).al (.cells #[.int .i64 0] 53)).al (.cells #[.slice none 0 0] 115)) (fun _ _ h => h)
  have hlk := hW.works.pinsMap.lookup (P := Tryz.prog) (t := 106) intKeyOk Tryz.underlying106 Tryz.underlying3 (Tryz.zeroIntV _) s false
  simp only [Bool.false_eq_true, if_false, pins_look, hs] at hlk
  have c4 : w.cell? ⟨R.sb, 4, none⟩ = some (.map R.pm) := h.cell 4
  have hlt := h.lt
  have hl1 : R.sb < w.heap.size + 1 := by omega
  clear h hW hs
  generalize R.sb = sb at *
  generalize R.pm = pm at *
  go_enter_defers Tryz.func26, Tryz.ntmps26
  go_wp2
  refine leaves_cons (f := 67) (args := #[.pointer (some ⟨w.heap.size + 1, 0, none⟩), .pointer (some ⟨w.heap.size, 0, none⟩)]) (by simp) (by simp [go_sem]) ?_
  refine (unpin1_none (w.heap.size + 1) w.heap.size 1 (by omega) _ ?_ ?_).mono ?_
  · simp [go_sem]
  · simp [go_sem]
  rintro e u' w'' ⟨rfl, rfl, hk⟩
  have hb : w''.cell? ⟨w.heap.size, 0, none⟩ = some (.int .i64 1) := hk.cell (p := ⟨w.heap.size, 0, none⟩) (by simp [go_sem]) (fun h => h)
  simp [Leaves, settle, results, Tryz.results26, go_sem, hb]
  exact (((Keeps.refl _ w).al _).al _).tr hk (fun _ h => h)

theorem pins_del (l : List (Int × Int)) (s : Int) : del (l.map fun p => (p.1, Value.int .i64 p.2)) s = (del l s).map fun p => (p.1, .int .i64 p.2) := del_map (fun z : Int => Value.int .i64 z) l s

theorem pm_some {w : World} {R : Rep} (h : StoreAt w R) {s : Int} (hs : (look R.pins s).getD 0 ≠ 0) : ∃ b, R.pm = some b := by
  cases hpm : R.pm with
  | some b => exact ⟨b, rfl⟩
  | none =>
    have := h.works.pinsMap
    rw [hpm] at this
    have h2 : (R.pins.map fun p => (p.1, Value.int .i64 p.2)) = [] := this
    have h3 : R.pins = [] := by simpa using h2
    rw [h3] at hs
    exact absurd rfl hs

set_option maxRecDepth 100000 in
set_option maxHeartbeats 1000000 in
theorem unpin_last (R : Rep) (s : Int) (w : World) (h : StoreAt w R) (hs : (look R.pins s).getD 0 = 1) :
    Calls Tryz.prog 26 #[.pointer (some ⟨R.sb, 0, none⟩), .int .i64 s] w fun e w' => e = .returned (.int .i64 0) ∧ PinPost R (del R.pins s) w w' := by
  obtain ⟨b, hpm⟩ := pm_some h (s := s) (by rw [hs]; omega)
  have hmf : ∀ (fn : Fn) (first cap : Array Value) (w : World), (Instr.makeFunc fn first cap).run Tryz.prog w = .ok (.func fn first cap) w := fun _ _ _ _ => rfl
  have hk0 : Keeps (fun _ => False) w ((w.alloc (.cells #[.int .i64 0] 53)).alloc (.cells #[.slice none 0 0] 115)) := ((Keeps.refl (fun _ => False) w).al _).al _
  have hW := h.kept hk0 (fun _ _ h => h)
  have hbf : b ∈ R.fp := (fp_split R).mem_iff.2 (List.mem_cons_of_mem _ (List.mem_append_left _ (by simp [pcOf, hpm])))
  have hbl := fp_lt h _ hbf
  have hlt := h.lt
  have hl1 : R.sb < w.heap.size + 1 := by omega
  have c4 : w.cell? ⟨R.sb, 4, none⟩ = some (.map (some b)) := (h.cell 4).trans (by rw [← hpm]; rfl)
  have hM : MapAt (Value.int .i64) ((w.alloc (.cells #[.int .i64 0] 53)).alloc (.cells #[.slice none 0 0] 115)) b (R.pins.map fun p => (p.1, .int .i64 p.2)) := by have := hW.works.pinsMap; rw [hpm] at this; exact this
  have hlk0 : (look (R.pins.map fun p => (p.1, Value.int .i64 p.2)) s).getD (.int .i64 0) = .int .i64 1 := by rw [pins_look, hs]
  have hlk := hM.lookup (P := Tryz.prog) (t := 106) intKeyOk Tryz.underlying106 Tryz.underlying3 (Tryz.zeroIntV _) s false
  simp only [Bool.false_eq_true, if_false, hlk0] at hlk
  have HE := hid (remove_pin (w.heap.size + 1) [] [w.heap.size + 1] b s _ 1 _ (chg_new w (.cells #[.int .i64 0] 53)) hM hlk0 (by simp; omega) (by simp))
  have HST := hid h
  have HPM := hid hpm
  have HW := hid hW
  have HK0 := hid hk0
  clear hs h hM hpm hlk0 hW hk0
  go_enter_defers Tryz.func26, Tryz.ntmps26
  go_wp2_with (go_at_call 68; go_must (refine (HE.out).mono ?_; rintro e w2 ⟨rfl, fs2, C2, hf2, hC2, hk2, hC2', hm2⟩; have hE0 : w2.heap[w.heap.size]? = some (.cells #[.int .i64 0] 53 (0, 0)) := ((hk2.block w.heap.size (by simp; omega) (by rintro (hc | hc); (simp at hc); omega)).trans (Below.heap_alloc _ _ _ (by simp))).trans (heap_new w _); have y0 : w2.cell? ⟨w.heap.size, 0, none⟩ = some (.int .i64 0) := cell_of_heap hE0 0; have y1 : w2.frozen? ⟨w.heap.size, 0, none⟩ = false := frozen_of_heap hE0 0; have HE0 := hid hE0; have HM2 := hid hm2; have HK2 := hid hk2; clear hE0 hm2 hk2))
  refine leaves_cons (f := 67) (args := #[.pointer (some ⟨w.heap.size + 1, 0, none⟩), .pointer (some ⟨w.heap.size, 0, none⟩)]) (by simp) (by simp [go_sem]) ?_
  have hE1 := heap_setCell_same (i := 0) HE0.out (.int .i64 0)
  refine (unpin1_ok (w.heap.size + 1) w.heap.size _ ?_).mono ?_
  · exact cell_of_heap hE1 0
  rintro e u' w'' ⟨rfl, rfl, rfl⟩
  have hpost : PinPost R (del R.pins s) w (w2.setCell ⟨w.heap.size, 0, none⟩ (.int .i64 0)) := by
    have hm := HM2.out
    rw [pins_del] at hm
    have s1 := HW.out.pinned HPM.out HK2.out (fun k hk hf => by have := fp_lt HST.out k hf; simp at hk; omega) hm
    refine ⟨R.pm, s1.kept (Keeps.setCell _ _ _) (fun k hk e => ?_), ?_, .inl rfl⟩
    · have e' : k = w.heap.size := e
      have hk' : k ∈ R.fp := hk
      have := fp_lt HST.out k hk'
      omega
    · refine ((HK0.out.mono (fun _ _ h => h.elim)).trans HK2.out (fun k hk h => ?_)).st (.inl (Nat.le_refl _)) _
      rcases h with h | h
      · simp at h; omega
      · rw [h]; exact hbf
  have hb := cell_of_heap hE1 0
  generalize w2.setCell ⟨w.heap.size, 0, none⟩ (.int .i64 0) = W3 at hpost hb
  simp at hb
  simp [Leaves, settle, results, Tryz.results26, go_sem, hb]
  exact hpost

set_option maxRecDepth 100000 in
set_option maxHeartbeats 1000000 in
theorem unpin_more (R : Rep) (s c : Int) (w : World) (h : StoreAt w R) (hs : (look R.pins s).getD 0 = c) (hc1 : 2 ≤ c) (hc2 : c ≤ 1000000000000000) :
    Calls Tryz.prog 26 #[.pointer (some ⟨R.sb, 0, none⟩), .int .i64 s] w fun e w' => e = .returned (.int .i64 0) ∧ PinPost R (put R.pins s (c - 1)) w w' := by
  obtain ⟨b, hpm⟩ := pm_some h (s := s) (by rw [hs]; omega)
  have hmf : ∀ (fn : Fn) (first cap : Array Value) (w : World), (Instr.makeFunc fn first cap).run Tryz.prog w = .ok (.func fn first cap) w := fun _ _ _ _ => rfl
  have hk0 : Keeps (fun _ => False) w ((w.alloc (.cells #[.int .i64 0] 53)).alloc (.cells #[.slice none 0 0] 115)) := ((Keeps.refl (fun _ => False) w).al _).al _
  have hW := h.kept hk0 (fun _ _ h => h)
  have hbf : b ∈ R.fp := (fp_split R).mem_iff.2 (List.mem_cons_of_mem _ (List.mem_append_left _ (by simp [pcOf, hpm])))
  have hbl := fp_lt h _ hbf
  have hlt := h.lt
  have hl1 : R.sb < w.heap.size + 1 := by omega
  have hnb : R.sb ≠ b := fun e => by
    have hnd := (fp_split R).nodup_iff.1 h.nodup
    rw [List.nodup_cons] at hnd
    exact hnd.1 (e ▸ List.mem_append_left _ (by simp [pcOf, hpm]))
  have c4 : w.cell? ⟨R.sb, 4, none⟩ = some (.map (some b)) := (h.cell 4).trans (by rw [← hpm]; rfl)
  have hM : MapAt (Value.int .i64) ((w.alloc (.cells #[.int .i64 0] 53)).alloc (.cells #[.slice none 0 0] 115)) b (R.pins.map fun p => (p.1, .int .i64 p.2)) := by have := hW.works.pinsMap; rw [hpm] at this; exact this
  have hlk0 : (look (R.pins.map fun p => (p.1, Value.int .i64 p.2)) s).getD (.int .i64 0) = .int .i64 c := by rw [pins_look, hs]
  have hlkA := hM.lookup (P := Tryz.prog) (t := 106) intKeyOk Tryz.underlying106 Tryz.underlying3 (Tryz.zeroIntV _) s false
  have hlkB := (hM.kept (Keeps.drew (fun _ => False) _) (fun h => h)).lookup (P := Tryz.prog) (t := 106) intKeyOk Tryz.underlying106 Tryz.underlying3 (Tryz.zeroIntV _) s false
  simp only [Bool.false_eq_true, if_false, hlk0] at hlkA hlkB
  have HWR := hid (show IntKind.i64.wrap (c - 1) = c - 1 from IntWalk.i64_in _ ⟨by omega, by omega⟩)
  have HE := hid (enter_pin (w.heap.size + 1) [] [w.heap.size + 1] b s _ c (IntKind.i64.wrap (c - 1)) _ ((chg_new w (.cells #[.int .i64 0] 53)).kept (Keeps.drew (fun _ => False) _) (fun _ _ h => h)) (hM.kept (Keeps.drew (fun _ => False) _) (fun h => h)) hlk0 (by simp; omega) (by simp))
  have hz0 : (c == 0) = false := beq_eq_false_iff_ne.2 (by omega)
  have hz1 : (c == 1) = false := beq_eq_false_iff_ne.2 (by omega)
  have HST := hid h
  have HPM := hid hpm
  have HW := hid hW
  have HK0 := hid hk0
  clear hs h hM hpm hlk0 hW hk0
  go_enter_defers Tryz.func26, Tryz.ntmps26
  go_wp2_with fail
  go_region_held3 (fun W => W.cell? ⟨R.sb, 4, none⟩ = some (.map (some b))) (go_keep) (first | (go_at_call 54; refine (HE.out).mono ?_; rintro e w2 ⟨rfl, fs2, C2, hf2, hC2, hk2, hC2', hm2⟩; rw [HWR.out] at hm2; have q4 := hk2.cell (p := ⟨R.sb, 4, none⟩) ((((Keeps.refl (fun _ => False) w).al _).al _).dr.cell c4 (fun h => h)) (by rintro (e | e); ((simp at e); omega); exact hnb e)))
  have hE0 : w2.heap[w.heap.size]? = some (.cells #[.int .i64 0] 53 (0, 0)) := by
    rw [hk2.block w.heap.size (by simp [World.drew]; omega) (by rintro (hc | hc); (simp at hc); omega)]
    exact (Below.heap_alloc _ _ _ (by simp)).trans (heap_new w _)
  have y0 : w2.cell? ⟨w.heap.size, 0, none⟩ = some (.int .i64 0) := cell_of_heap hE0 0
  have y1 : w2.frozen? ⟨w.heap.size, 0, none⟩ = false := frozen_of_heap hE0 0
  have HE0 := hid hE0
  have HM2 := hid hm2
  have HK2 := hid hk2
  clear hE0 hm2 hk2 hlkA hlkB
  go_wp2
  refine leaves_cons (f := 67) (args := #[.pointer (some ⟨w.heap.size + 1, 0, none⟩), .pointer (some ⟨w.heap.size, 0, none⟩)]) (by simp) (by simp [go_sem]) ?_
  have hE1 := heap_setCell_same (i := 0) HE0.out (.int .i64 0)
  refine (unpin1_ok (w.heap.size + 1) w.heap.size _ ?_).mono ?_
  · exact cell_of_heap hE1 0
  rintro e u' w'' ⟨rfl, rfl, rfl⟩
  have hpost : PinPost R (put R.pins s (c - 1)) w (w2.setCell ⟨w.heap.size, 0, none⟩ (.int .i64 0)) := by
    have hm := HM2.out
    rw [pins_put] at hm
    have s1 := (HW.out.kept (Keeps.drew (fun _ => False) _) (fun _ _ h => h)).pinned HPM.out HK2.out (fun k hk hf => by have := fp_lt HST.out k hf; simp at hk; omega) hm
    refine ⟨R.pm, s1.kept (Keeps.setCell _ _ _) (fun k hk e => ?_), ?_, .inl rfl⟩
    · have e' : k = w.heap.size := e
      have hk' : k ∈ R.fp := hk
      have := fp_lt HST.out k hk'
      omega
    · refine (((HK0.out.dr).mono (fun _ _ h => h.elim)).trans HK2.out (fun k hk h => ?_)).st (.inl (Nat.le_refl _)) _
      rcases h with h | h
      · simp at h; omega
      · rw [h]; exact hbf
  have hb := cell_of_heap hE1 0
  generalize w2.setCell ⟨w.heap.size, 0, none⟩ (.int .i64 0) = W3 at hpost hb
  simp at hb
  simp [Leaves, settle, results, Tryz.results26, go_sem, hb]
  exact hpost

end Go.Proofs.YtfcocbcihhdbkaaGreatDoor

/- The keys from one on: those that have versions, those that a work has written. -/
namespace Go.Proofs.YtfcocbcihhdbkaaGreatDoor
open Go.RowKit Go.Shelf

theorem seg_drop {w : World} {g at_ n cap cap' : Nat} {ks : List ByteArray} (h : Row w 9 1 (.slice (some ⟨g, 0, none⟩) n cap) n (ks.map Value.string)) (hn : n = ks.length) (ha : at_ ≤ n) (h1 : n - at_ ≤ cap') (h2 : cap' ≤ maxLen) {G : List Nat} (hG : g ∈ G) :
    Seg G w (.slice (some ⟨g, at_, none⟩) (n - at_) cap') (ks.drop at_) := by
  refine .inr ⟨g, at_, cap', hG, by rw [List.length_drop, hn], by rw [List.length_drop, ← hn]; exact h1, h2, fun i hi => ?_⟩
  rw [List.length_drop] at hi
  rw [h.cellAt (at_ + i) (by omega)]
  simp only [List.getElem?_map, List.getElem_drop]
  rw [List.getElem?_eq_getElem (by omega)]
  rfl

theorem seg_none {G : List Nat} {w : World} {oa : Option Addr} {cap : Nat} {ks : List ByteArray} (h : ks = []) : Seg G w (.slice oa 0 cap) ks := .inl ⟨h, oa, cap, rfl⟩

set_option maxRecDepth 100000 in
set_option maxHeartbeats 800000 in
theorem pastKeys_from (R : Rep) (from_ : ByteArray) (w : World) (h : StoreAt w R) (hr : Rises R.keys) (hl : R.keys.length < 1000000000000) :
    Calls Tryz.prog 106 #[.pointer (some ⟨R.sb, 7, none⟩), .string from_] w fun e w' => ∃ v, e = .returned v ∧ Seg R.kv.ownBlock.toList w' v (R.keys.drop (below R.keys from_)) ∧ Keeps (fun _ => False) w w' := by
  have hs := search_keys R.kv R.keys from_ w h.past.keysRow hr (by omega)
  have c5 : w.cell? ⟨R.sb, 7, none⟩ = some R.kv := h.cell 7
  have hble := below_le R.keys from_
  have HS := hid hs
  have HROW := hid h.past.keysRow
  rcases h.past.keysRow.2 with ⟨e, en⟩ | ⟨g, cap, cur, e, hh, h1, h2, h3, h4⟩
  · have en' : R.keys = [] := List.eq_nil_of_length_eq_zero en
    rw [en'] at HS ⊢
    rw [e] at c5 HS ⊢
    have e0 : below ([] : List ByteArray) from_ = 0 := rfl
    rw [e0] at HS
    clear h hs e en HROW hble en'
    generalize memB [] from_ = m at HS
    simp only [Int.natCast_zero] at HS
    go_enter Tryz.func106, Tryz.ntmps106
    go_wp2_with (go_at_call 172; go_must (refine (HS.out).mono ?_; rintro e w1 ⟨rfl, k1⟩; have d5 := k1.cell (p := ⟨R.sb, 7, none⟩) c5 (fun h => h)))
    go_region
    go_wp2
    go_ret
    exact ⟨_, rfl, seg_none (by simp), k1.dr⟩
  · rw [e] at c5 HS HROW ⊢
    clear h hs e hh h3 h4
    generalize memB R.keys from_ = m at HS
    generalize below R.keys from_ = at_ at *
    obtain ⟨n, hn⟩ : ∃ n, n = R.keys.length := ⟨_, rfl⟩
    rw [← hn] at c5 HS HROW hble h1 hl
    have HN := hid hn
    have hcm : cap ≤ maxLen := h2
    unfold maxLen at h2
    clear hn
    by_cases hat : at_ = n
    · subst hat
      go_enter Tryz.func106, Tryz.ntmps106
      go_wp2_with (go_at_call 172; go_must (refine (HS.out).mono ?_; rintro e w1 ⟨rfl, k1⟩; have d5 := k1.cell (p := ⟨R.sb, 7, none⟩) c5 (fun h => h)))
      go_region
      go_wp2
      go_ret
      refine ⟨_, rfl, ?_, k1.dr⟩
      have e0 : R.keys.drop at_ = [] := by rw [HN.out]; simp
      rw [e0]
      exact seg_none rfl
    · have hlt : at_ < n := by omega
      go_enter Tryz.func106, Tryz.ntmps106
      go_wp2_with (go_at_call 172; go_must (refine (HS.out).mono ?_; rintro e w1 ⟨rfl, k1⟩; have d5 := k1.cell (p := ⟨R.sb, 7, none⟩) c5 (fun h => h)))
      go_region
      go_wp2
      go_ret
      refine ⟨_, rfl, ?_, k1.dr⟩
      have := seg_drop (cap' := n - at_) (G := (Value.slice (some ⟨g, 0, none⟩) R.keys.length cap).ownBlock.toList) (HROW.out.kept k1.dr (fun _ _ h => h)) HN.out (by omega) (Nat.le_refl _) (by omega) (by simp [Value.ownBlock])
      exact this

set_option maxRecDepth 100000 in
set_option maxHeartbeats 800000 in
theorem keys_from (wb mb : Nat) (from_ : ByteArray) (l : List (ByteArray × Value)) (w : World) (hc : w.cell? ⟨wb, 1, none⟩ = some (.map (some mb))) (hm : MapAt Value.string w mb l) (hk : ∀ p ∈ l, p.1.size ≤ maxLen) (hl : l.length ≤ 1000000) :
    Calls Tryz.prog 107 #[.pointer (some ⟨wb, 0, none⟩), .string from_] w fun e w' => ∃ v ks G, e = .returned v ∧ Seg G w' v (ks.drop (below ks from_)) ∧ Rises ks ∧ ks.Perm (l.map (·.1)) ∧ Keeps (fun _ => False) w w' ∧ (∀ k ∈ G, w.heap.size < k ∧ k < w'.heap.size) := by
  have hnd := hm.nodup
  obtain ⟨D, hD1, hD2, hD3⟩ := hm.owns hk (by unfold maxLen; omega)
  have hsrt := fun W : World => True
  have hSK := Tryz.slices_Sorted_keys_114_173 mb l.length D _ w hD1 (by rw [hD3]; unfold maxLen; omega) (by rw [hD3]; omega)
  have HD2 : Hid ((strKeys D).Perm (l.map (fun p => p.1.data.toList))) := hD2
  have HND : Hid ((l.map (·.1)).Nodup) := hnd
  have HL : Hid (l.length ≤ 1000000) := hl
  clear hD1 hD2 hD3 hnd hm hk hl hsrt
  refine (callsIn_wide (n := 6)).1 ?_
  have hfK : Fence.wide.fn 173 := trivial
  have hfS : Fence.wide.fn 114 := trivial
  have hfB : Fence.wide.fn 172 := trivial
  refine callsIn_of_wp Tryz.func107 rfl trivial ?_ rfl
  simp only [Tryz.ntmps107, List.size_toArray, List.length_cons, List.length_nil, Nat.reduceAdd, Nat.reduceSub, Array.replicate_succ, Array.replicate_zero, List.push_toArray, List.append_toArray, List.nil_append, List.cons_append]
  gi_wp2_with (first
    | (gi_at_call 173; go_must (refine (Tryz.maps_Keys_173 _ _).mono ?_; rintro e w' ⟨rfl, rfl⟩))
    | (gi_at_call 114; go_must (refine hSK.mono ?_; rintro e w' ⟨v, ss, rfl, hS, hrow, hnil, hb⟩)))
  have hks : Rises (asKeys ss) := asKeys_rises ((hS.trans HD2.out).nodup_iff.2 (by
    have := HND.out
    have e : l.map (fun p => p.1.data.toList) = (l.map (·.1)).map (fun k => k.data.toList) := by rw [List.map_map]; rfl
    rw [e]
    exact nodup_map_inj (fun _ _ h => data_inj h) this))
  have hperm : (asKeys ss).Perm (l.map (·.1)) := asKeys_perm (by
    have := hS.trans HD2.out
    rwa [show l.map (fun p => p.1.data.toList) = (l.map (·.1)).map (fun k => k.data.toList) from by rw [List.map_map]; rfl] at this)
  have hlen : (asKeys ss).length = ss.length := by simp [asKeys]
  have hR : Row w' 9 1 v (asKeys ss).length ((asKeys ss).map Value.string) := by
    rw [hlen]
    have := row_of_owns hrow
    have e : (asKeys ss).map Value.string = (ss.mergeSort (fun x y => decide (x ≤ y))).map encStr := by simp [asKeys, Function.comp_def]
    rw [e]
    exact this
  have hsl : ss.length = l.length := by have := (hS.trans HD2.out).length_eq; simpa using this
  have hB := search_keys v (asKeys ss) from_ w' hR hks (by rw [hlen, hsl]; have := HL.out; omega)
  have hble := below_le (asKeys ss) from_
  have hkk : Keeps (fun _ => False) w w' := ((Keeps.refl _ w).al _).tr (Keeps.below hb) (fun _ h => h)
  generalize memB (asKeys ss) from_ = mb1 at hB
  generalize asKeys ss = ks at *
  have HW : Hid (∀ k, v.ownBlock = some k → w.heap.size < k) := fun k hk => by have := (hrow.lt k hk).1; simp at this; omega
  clear hSK hS hrow hnil hb hsl hlen
  have HR : Hid (Row w' 9 1 v ks.length (ks.map Value.string)) := hR
  have HK : Hid (Rises ks) := hks
  have HP : Hid (ks.Perm (l.map (·.1))) := hperm
  have HKK : Hid (Keeps (fun _ => False) w w') := hkk
  rcases hR.shape with ⟨rfl, h0⟩ | ⟨g, cap, rfl, hcap1, hcap2⟩
  · have h0' : ks = [] := List.eq_nil_of_length_eq_zero h0
    have hb1 : below ks from_ = 0 := by rw [h0']; rfl
    rw [hb1] at hB
    have H0 := hid h0'
    clear hR hks hperm hkk hble hb1 h0'
    gi_wp2_with (gi_at_call 172; go_must (refine (callsIn_wide.2 hB).mono ?_; rintro e w2 ⟨rfl, hk2⟩))
    go_ret
    exact ⟨_, ks, [], rfl, seg_none (by rw [H0.out]; rfl), HK.out, HP.out, HKK.out.tr hk2 (fun _ h => h), fun k hk => (by cases hk)⟩
  · clear hR hks hperm hkk
    have hcm : cap ≤ maxLen := hcap2
    unfold maxLen at hcap2
    have hgw : w.heap.size < g ∧ g < w'.heap.size := ⟨HW.out g rfl, HR.out.lt rfl⟩
    generalize hbe : below ks from_ = at_ at *
    have HBE := hid hbe
    clear hbe
    obtain ⟨n, hn⟩ : ∃ n, n = ks.length := ⟨_, rfl⟩
    rw [← hn] at hB HR hble hcap1
    have HN := hid hn
    rw [← hn]
    clear hn
    by_cases hat : at_ = cap
    · have hnc : n = cap := by omega
      subst hat
      subst hnc
      gi_wp2_with (gi_at_call 172; go_must (refine (callsIn_wide.2 hB).mono ?_; rintro e w2 ⟨rfl, hk2⟩))
      go_ret
      exact ⟨_, ks, [], rfl, seg_none (by rw [HBE.out, HN.out]; simp), HK.out, HP.out, HKK.out.tr hk2 (fun _ h => h), fun k hk => (by cases hk)⟩
    · have hlt : at_ < cap := by omega
      gi_wp2_with (gi_at_call 172; go_must (refine (callsIn_wide.2 hB).mono ?_; rintro e w2 ⟨rfl, hk2⟩))
      go_ret
      refine ⟨_, ks, [g], rfl, ?_, HK.out, HP.out, HKK.out.tr hk2 (fun _ h => h), fun k hk => ?_⟩
      · rw [HBE.out]
        exact seg_drop (HR.out.kept hk2 (fun _ _ h => h)) HN.out hble (by omega) (by omega) (by simp)
      · have e : k = g := by simpa using hk
        rw [e]
        exact ⟨hgw.1, Nat.lt_of_lt_of_le hgw.2 hk2.size⟩

end Go.Proofs.YtfcocbcihhdbkaaGreatDoor
