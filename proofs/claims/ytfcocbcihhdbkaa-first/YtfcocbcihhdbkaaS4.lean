/- Begin. -/
import Derived.Test.YtfcocbcihhdbkaaS3
import Derived.Deep.RegionHeld3
namespace Go.Proofs.Ytfcocbcihhdbkaa
open Go.RowKit

/-- The store behind a change of its first three numbers. -/
theorem StoreAt.nums {w w' : World} {R : Rep} {S : Nat → Prop} (h : StoreAt w R) (hk : Keeps S w w') (hS : ∀ k, k ∈ R.fpWorks ++ R.fpPast → ¬ S k) (now floor begun : Int)
    (ht : w'.heap[R.sb]? = some (.cells (topCells { R with now, floor, begun }) 66 (0, 0))) : StoreAt w' { R with now, floor, begun } := by
  have hw := h.works.kept hk (fun k hk' => hS k (List.mem_append_left _ hk'))
  have hp := h.past.kept hk (fun k hk' => hS k (List.mem_append_right _ hk'))
  exact ⟨ht, ⟨hw.worksMap, hw.worksEach, hw.pinsMap, hw.copyMap⟩, hp, h.nodup⟩

theorem StoreAt.set {w : World} {R R' : Rep} (h : StoreAt w R) (hsb : R'.sb = R.sb) {i : Nat} {v : Value} (he : (topCells R).setIfInBounds i v = topCells R') : (w.setCell ⟨R.sb, i, none⟩ v).heap[R'.sb]? = some (.cells (topCells R') 66 (0, 0)) := by
  rw [hsb, heap_setCell_same h.top, he]

theorem fp_lt {w : World} {R : Rep} (h : StoreAt w R) : ∀ k ∈ R.fp, k < w.heap.size := by
  intro k hk
  simp only [Rep.fp, Rep.fpWorks, Rep.fpPast, List.mem_cons, List.mem_append, List.mem_flatMap, Option.mem_toList] at hk
  rcases hk with rfl | ((h1 | h1) | ⟨p, hp, h1⟩) | ((h1 | h1) | ⟨p, hp, h1⟩)
  · exact h.lt
  · exact h.works.worksMap.lt h1
  · simp only [pcOf, List.mem_append, Option.mem_toList] at h1
    exact h1.elim (fun h1 => h.works.pinsMap.lt h1) (fun h1 => h.works.copyMap.lt h1)
  · obtain ⟨h2, h3⟩ := h.works.worksEach p hp
    simp only [List.not_mem_nil, or_false] at h1
    rcases h1 with rfl | rfl
    · exact (Array.getElem?_eq_some_iff.1 h2).1
    · exact h3.lt
  · exact h.past.keysRow.lt h1
  · exact h.past.histMap.lt h1
  · exact (h.past.histEach p hp).lt h1

set_option maxRecDepth 100000 in
set_option maxHeartbeats 800000 in
theorem begin_full (R : Rep) (w : World) (h : StoreAt w R) (hl : R.works.length = 8) :
    Calls Try.prog 7 #[.pointer (some ⟨R.sb, 0, none⟩)] w fun e w' => e = .returned (.tuple #[.int .i64 0, .int .i64 3]) ∧ Keeps (fun _ => False) w w' := by
  obtain ⟨-, -, -, h3, -, -, -, -, -⟩ := h.seven
  have hlt := h.lt
  have hw : OptMap (Value.int .i64) w R.wm (R.works.map fun p => (p.1, workPtr p.2)) := h.works.worksMap
  have hmf : ∀ (fn : Fn) (first cap : Array Value) (w : World), (Instr.makeFunc fn first cap).run Try.prog w = .ok (.func fn first cap) w := fun _ _ _ _ => rfl
  have HL : Hid ((R.works.map fun p => (p.1, workPtr p.2)).length = 8) := by unfold Hid; simp [hl]
  clear hl h
  generalize R.sb = sb at *
  generalize R.works.map (fun p => (p.1, workPtr p.2)) = l at *
  go_enter_defers Try.func7, Try.ntmps7
  go_wp2_with (at_len; go_must (refine wpList_len_opt _ rfl _ 59 rfl 3 73 Try.underlying59 R.wm rfl l ((hw.kept (Keeps.alloc (fun _ => False) _ _) (fun _ _ h => h)).kept (Keeps.alloc (fun _ => False) _ _) (fun _ _ h => h)) ?_; rw [HL.out]))
  refine leaves_cons (f := 21) (args := #[.pointer (some ⟨w.heap.size + 1, 0, none⟩), .pointer (some ⟨w.heap.size, 0, none⟩)]) (by simp) (by simp [go_sem]) ?_
  refine (begin1_none (w.heap.size + 1) w.heap.size 3 (by omega) _ ?_ ?_).mono ?_
  · simp [go_sem]
  · simp [go_sem]
  rintro e u' w'' ⟨rfl, rfl, hk⟩
  have hb : w''.cell? ⟨w.heap.size, 0, none⟩ = some (.int .i64 3) := hk.cell (p := ⟨w.heap.size, 0, none⟩) (by simp [go_sem]) (fun h => h)
  simp [Leaves, settle, results, Try.results7, go_sem, hb]
  exact (((Keeps.refl _ w).al _).al _).tr hk (fun _ h => h)

theorem chg_new (w : World) (o : Obj) : Chg ((w.alloc o).alloc (.cells #[.slice none 0 0] 56)) (w.heap.size + 1) [] [w.heap.size + 1] := by
  refine ⟨.slice none 0 0, ?_, Row.nil _ _ _, by simp [Value.ownBlock], rfl⟩
  have := heap_new (w.alloc o) (.cells #[.slice none 0 0] 56)
  simpa using this

theorem eqMap_some (b : Nat) (w : World) : (binOp BinOp.eql 59 (.map (some b)) (.map none)).run Try.prog w = .ok (.bool false) w := by kernel_rfl
theorem eqMap_none (w : World) : (binOp BinOp.eql 59 (.map none) (.map none)).run Try.prog w = .ok (.bool true) w := by kernel_rfl

/-- Ahead of a region that draws, in a function that defers: it ends as it should. -/
theorem wp_normal {P : Program} {c : Code} {K : Act → World → Prop} {Q : Exit → Act → World → Prop} {a : Act} {w : World} (h : c.wp P (Exit.then K (fun _ _ _ => False)) a w) : c.wp P (Exit.then K Q) a w :=
  wp_mono h (fun e _ _ hq => by cases e <;> first | exact hq | exact hq.elim)

/-- Behind an assignment to the number of the last work. -/
theorem StoreAt.begunSet {w w' : World} {R : Rep} {C : List Nat} {n : Int} (h : StoreAt w R) (hk : Keeps (fun k => k ∈ C ∨ k = R.sb) w w') (hC : ∀ k ∈ C, k ∉ R.fp) (hb : w'.heap[R.sb]? = (w.setCell ⟨R.sb, 2, none⟩ (.int .i64 n)).heap[R.sb]?) : StoreAt w' { R with begun := n } := by
  refine h.nums hk (fun k hk' => ?_) R.now R.floor n ?_
  · rintro (hc | rfl)
    · exact hC k hc (List.mem_cons_of_mem _ hk')
    · have := h.nodup
      simp only [Rep.fp, List.nodup_cons] at this
      exact this.1 hk'
  · rw [hb]
    exact h.set (R' := { R with begun := n }) (i := 2) (v := .int .i64 n) rfl (by simp [topCells])

/-- What Begin leaves. -/
def BeginPost (R : Rep) (w w' : World) : Prop :=
  ∃ b m wm, StoreAt w' { R with begun := R.begun + 1, wm, works := R.works ++ [(R.begun + 1, ⟨b, m, R.now, []⟩)] } ∧ Keeps (· ∈ R.fp) w w' ∧ (wm = R.wm ∨ ∃ q, wm = some q ∧ w.heap.size ≤ q) ∧ w.heap.size ≤ b ∧ w.heap.size ≤ m

theorem workPtr_mk (b m : Nat) (n : Int) (l : List (ByteArray × Ver)) : workPtr ⟨b, m, n, l⟩ = .pointer (some ⟨b, 0, none⟩) := rfl

/-- A new work enters the map of the open ones. -/
theorem StoreAt.entered {w1 w2 : World} {R : Rep} {C : List Nat} {b0 : Nat} {n now : Int} (h : StoreAt w1 R) (hwm : R.wm = some b0) (hC : ∀ k ∈ C, k ∉ R.fp ∧ k ≠ w1.heap.size ∧ k ≠ w1.heap.size + 1) (hn : look R.works n = none)
    (hk : Keeps (fun k => k ∈ C ∨ k = b0) ((w1.alloc (.map #[] 0)).alloc (.cells #[.int .i64 now, .map (some w1.heap.size)] 76)).drew w2)
    (hm : MapAt (Value.int .i64) w2 b0 (put (R.works.map fun p => (p.1, workPtr p.2)) n (.pointer (some ⟨w1.heap.size + 1, 0, none⟩)))) :
    StoreAt w2 { R with works := R.works ++ [(n, ⟨w1.heap.size + 1, w1.heap.size, now, []⟩)] } ∧ Keeps (fun k => k ∈ C ∨ k = b0) w1 w2 := by
  have hk0 : Keeps (fun k => k ∈ C ∨ k = b0) w1 w2 := ((((Keeps.refl _ w1).al _).al _).dr).tr hk (fun _ h => h)
  have hnd := h.nodup
  have hlt := fp_lt h
  have hb0 : b0 ∈ R.fp := by simp [Rep.fp, Rep.fpWorks, hwm]
  have hb0w : b0 < w1.heap.size := hlt _ hb0
  have hfpW : R.fpWorks = b0 :: (pcOf R.pm R.cm ++ R.works.flatMap (fun p => [p.2.blk, p.2.mb])) := by simp [Rep.fpWorks, hwm]
  have hnb : ∀ k, k ∈ R.sb :: ((pcOf R.pm R.cm ++ R.works.flatMap (fun p => [p.2.blk, p.2.mb])) ++ R.fpPast) → ¬ (k ∈ C ∨ k = b0) := by
    intro k hk'
    rintro (hc | rfl)
    · refine (hC k hc).1 ?_
      simp only [Rep.fp, hfpW, List.mem_cons, List.mem_append] at hk' ⊢
      rcases hk' with h | h | h
      · exact .inl h
      · exact .inr (.inl (.inr h))
      · exact .inr (.inr h)
    · simp only [Rep.fp, hfpW, List.cons_append, List.nodup_cons, List.mem_cons, List.mem_append, not_or] at hnd
      simp only [List.mem_cons, List.mem_append] at hk'
      rcases hk' with h | h | h
      · exact hnd.1.1 h.symm
      · rcases h with h | h
        · exact hnd.2.1.1.1 h
        · exact hnd.2.1.1.2 h
      · exact hnd.2.1.2 h
  refine ⟨⟨?_, ⟨?_, ?_, ?_, ?_⟩, ?_, ?_⟩, hk0⟩
  · exact (hk0.block R.sb h.lt (hnb _ (by simp))).trans h.top
  · have e : (R.works ++ [(n, (⟨w1.heap.size + 1, w1.heap.size, now, []⟩ : WkR))]).map (fun p => (p.1, workPtr p.2)) = put (R.works.map fun p => (p.1, workPtr p.2)) n (.pointer (some ⟨w1.heap.size + 1, 0, none⟩)) := by
      rw [put_none (by rw [look_map, hn]; rfl)]
      simp [workPtr]
    show OptMap _ _ R.wm _
    rw [e, hwm]
    exact hm
  · intro p hp
    rcases List.mem_append.1 hp with hp | hp
    · obtain ⟨h1, h2⟩ := h.works.worksEach p hp
      have hm1 : p.2.blk ∈ R.works.flatMap (fun p => [p.2.blk, p.2.mb]) := List.mem_flatMap.2 ⟨p, hp, by simp⟩
      have hm2 : p.2.mb ∈ R.works.flatMap (fun p => [p.2.blk, p.2.mb]) := List.mem_flatMap.2 ⟨p, hp, by simp⟩
      exact ⟨(hk0.block _ (Array.getElem?_eq_some_iff.1 h1).1 (hnb _ (by simp [hm1]))).trans h1, h2.kept hk0 (hnb _ (by simp [hm2]))⟩
    · simp only [List.mem_singleton] at hp
      subst hp
      have hd : (((w1.alloc (.map #[] 0)).alloc (.cells #[.int .i64 now, .map (some w1.heap.size)] 76)).drew).heap[w1.heap.size + 1]? = some (.cells #[.int .i64 now, .map (some w1.heap.size)] 76 (0, 0)) := by
        have := heap_new (w1.alloc (.map #[] 0)) (.cells #[.int .i64 now, .map (some w1.heap.size)] 76)
        simpa [World.drew] using this
      refine ⟨?_, ?_⟩
      · rw [hk.block (w1.heap.size + 1) (by simp) ?_]
        · exact hd
        · rintro (hc | hc)
          · exact (hC _ hc).2.2 rfl
          · omega
      · have h0 : MapAt Value.string (w1.alloc (.map #[] 0)) w1.heap.size [] := MapAt.made _ _
        have h1 : MapAt Value.string (((w1.alloc (.map #[] 0)).alloc (.cells #[.int .i64 now, .map (some w1.heap.size)] 76)).drew) w1.heap.size [] := h0.kept (((Keeps.refl (fun _ => False) _).al _).dr) (fun h => h)
        refine h1.kept hk ?_
        rintro (hc | hc)
        · exact (hC _ hc).2.1 rfl
        · omega
  · exact h.works.pinsMap.kept hk0 (fun b hb => hnb _ (by simp [pcOf, hb]))
  · exact h.works.copyMap.kept hk0 (fun b hb => hnb _ (by simp [pcOf, hb]))
  · exact h.past.kept hk0 (fun k hk' => hnb _ (List.mem_cons_of_mem _ (List.mem_append_right _ hk')))
  · have e : Rep.fp { R with works := R.works ++ [(n, ⟨w1.heap.size + 1, w1.heap.size, now, []⟩)] } = R.sb :: ((R.wm.toList ++ pcOf R.pm R.cm ++ (R.works.flatMap (fun p => [p.2.blk, p.2.mb]) ++ [w1.heap.size + 1, w1.heap.size])) ++ R.fpPast) := by
      simp [Rep.fp, Rep.fpWorks, Rep.fpPast]
    rw [e]
    have hperm : (R.sb :: ((R.wm.toList ++ pcOf R.pm R.cm ++ (R.works.flatMap (fun p => [p.2.blk, p.2.mb]) ++ [w1.heap.size + 1, w1.heap.size])) ++ R.fpPast)).Perm ([w1.heap.size + 1, w1.heap.size] ++ R.fp) := by
      simp only [Rep.fp, Rep.fpWorks]
      refine List.Perm.trans ?_ (List.perm_middle.symm)
      refine List.Perm.cons _ ?_
      rw [← List.append_assoc, List.append_assoc _ _ R.fpPast]
      refine List.Perm.trans (List.perm_append_comm_assoc _ _ _) ?_
      simp [List.append_assoc]
    rw [hperm.nodup_iff]
    simp only [List.cons_append, List.nil_append, List.nodup_cons, List.mem_cons, not_or]
    exact ⟨⟨by omega, fun h' => by have := hlt _ h'; omega⟩, fun h' => by have := hlt _ h'; omega, hnd⟩

theorem mem_fp_entered {R : Rep} {c n now : Int} {b m k : Nat} (hk : k ∈ Rep.fp { R with begun := c, works := R.works ++ [(n, ⟨b, m, now, []⟩)] }) : k ∈ R.fp ∨ k = b ∨ k = m := by
  have e : Rep.fp { R with begun := c, works := R.works ++ [(n, ⟨b, m, now, []⟩)] } = R.sb :: ((R.wm.toList ++ pcOf R.pm R.cm ++ (R.works.flatMap (fun p => [p.2.blk, p.2.mb]) ++ [b, m])) ++ R.fpPast) := by
    simp [Rep.fp, Rep.fpWorks, Rep.fpPast]
  rw [e] at hk
  simp only [List.mem_cons, List.mem_append, List.not_mem_nil, or_false] at hk
  simp only [Rep.fp, Rep.fpWorks, List.mem_cons, List.mem_append]
  rcases hk with h | ((h | h) | (h | h | h)) | h
  · exact .inl (.inl h)
  · exact .inl (.inr (.inl (.inl (.inl h))))
  · exact .inl (.inr (.inl (.inl (.inr h))))
  · exact .inl (.inr (.inl (.inr h)))
  · exact .inr (.inl h)
  · exact .inr (.inr h)
  · exact .inl (.inr (.inr h))

set_option maxRecDepth 100000 in
set_option maxHeartbeats 1000000 in
theorem begin_some (R : Rep) (w : World) (h : StoreAt w R) (b0 : Nat) (hwm : R.wm = some b0) (hl : R.works.length < 8) (hb1 : 0 ≤ R.begun) (hb2 : R.begun < 1152921504606846976) (hn : look R.works (R.begun + 1) = none) :
    Calls Try.prog 7 #[.pointer (some ⟨R.sb, 0, none⟩)] w fun e w' => e = .returned (.tuple #[.int .i64 (R.begun + 1), .int .i64 0]) ∧ BeginPost R w w' := by
  obtain ⟨h0, -, h2, h3, -, -, -, -, -⟩ := h.seven
  have hlt := h.lt
  have hw : MapAt (Value.int .i64) w b0 (R.works.map fun p => (p.1, workPtr p.2)) := by have := h.works.worksMap; rw [hwm] at this; exact this
  have hmf : ∀ (fn : Fn) (first cap : Array Value) (w : World), (Instr.makeFunc fn first cap).run Try.prog w = .ok (.func fn first cap) w := fun _ _ _ _ => rfl
  have hmm := @run_makeMap Try.prog
  have hem := eqMap_some
  rw [hwm] at h3
  have HL : Hid ((R.works.map fun p => (p.1, workPtr p.2)).length < 8) := by unfold Hid; simpa using hl
  have HN : Hid (look (R.works.map fun p => (p.1, workPtr p.2)) (R.begun + 1) = none) := by unfold Hid; rw [look_map, hn]; rfl
  have HST : Hid (StoreAt w R) := h
  have HWM : Hid (R.wm = some b0) := hwm
  have HNF : Hid (R.sb ≠ b0) := by
    have := h.nodup
    simp only [Rep.fp, Rep.fpWorks, hwm, Option.toList_some, List.nodup_cons] at this
    intro e
    exact this.1 (by simp [e])
  have HWR : Hid (IntKind.i64.wrap (R.begun + 1) = R.begun + 1) := IntWalk.i64_in _ ⟨by omega, by omega⟩
  clear hl h hn hwm
  obtain ⟨n8, hn8⟩ : ∃ n8 : Nat, (R.works.map fun p => (p.1, workPtr p.2)).length = n8 := ⟨_, rfl⟩
  have hn8' : n8 < 8 := by rw [← hn8]; exact HL.out
  have HN8 : Hid ((R.works.map fun p => (p.1, workPtr p.2)).length = n8) := hn8
  clear hn8
  go_enter_defers Try.func7, Try.ntmps7
  go_wp2_with (at_len; go_must (refine wpList_len_at _ rfl _ 59 rfl 3 73 Try.underlying59 b0 rfl _ ((hw.kept (Keeps.alloc (fun _ => False) _ _) (fun h => h)).kept (Keeps.alloc (fun _ => False) _ _) (fun h => h)) ?_; rw [HN8.out]))
  refine wp_normal ?_
  go_region_with (go_at_call 24; go_must (refine (assign_int (w.heap.size + 1) [] [w.heap.size + 1] R.sb 2 R.begun (IntKind.i64.wrap (R.begun + 1)) _ ((chg_new w _).kept (Keeps.drew (fun _ => False) _) (fun _ _ h => h)) ((HST.out.kept (((Keeps.refl (fun _ => False) w).al _).al _).dr (fun _ _ h => h)).cell 2) ((HST.out.kept (((Keeps.refl (fun _ => False) w).al _).al _).dr (fun _ _ h => h)).frozen 2) (by simp; omega) (by simp)).mono ?_; rintro e w1 ⟨rfl, fs1, C1, hf1, hC1, hk1, hC1', hb1⟩; rw [HWR.out] at hb1; have HB1 : Hid (w1.heap[R.sb]? = _) := hb1; clear hb1))
  have HS1 : Hid (StoreAt w1 { R with begun := R.begun + 1 }) := StoreAt.begunSet (HST.out.kept (((Keeps.refl (fun _ => False) w).al _).al _).dr (fun _ _ h => h)) hk1 (fun k hk hf => by have := fp_lt HST.out k hf; simp at hk; omega) HB1.out
  have g0 : w1.cell? ⟨R.sb, 0, none⟩ = some (.int .i64 R.now) := HS1.out.cell 0
  have g2 : w1.cell? ⟨R.sb, 2, none⟩ = some (.int .i64 (R.begun + 1)) := HS1.out.cell 2
  have g3 : w1.cell? ⟨R.sb, 3, none⟩ = some (.map (some b0)) := (HS1.out.cell 3).trans (by rw [← HWM.out]; rfl)
  have gl : R.sb < w1.heap.size := HS1.out.lt
  have gM : MapAt (Value.int .i64) w1 b0 (R.works.map fun p => (p.1, workPtr p.2)) := by have := HS1.out.works.worksMap; simp only [HWM.out] at this; exact this
  have HC1 : Hid (∀ k ∈ C1, k ∉ R.fp ∧ w.heap.size < k) := fun k hk => by
    rcases hC1' k hk with h' | h'
    · simp at h'
      exact ⟨fun hf => by have := fp_lt HST.out k hf; omega, by omega⟩
    · simp at h'
      exact ⟨fun hf => by have := fp_lt HST.out k hf; omega, by omega⟩
  have HCB : Hid (b0 ∉ C1) := fun hc => (HC1.out _ hc).1 (by simp [Rep.fp, Rep.fpWorks, HWM.out])
  have HSB : Hid (¬ (R.sb ∈ C1 ∨ R.sb = b0)) := fun h' => h'.elim (fun hc => (HC1.out _ hc).1 (by simp [Rep.fp])) HNF.out
  have hE := enter_work (w.heap.size + 1) fs1 C1 b0 (R.begun + 1) _ none (some ⟨w1.heap.size + 1, 0, none⟩) ((w1.alloc (.map #[] 0)).alloc (.cells #[.int .i64 R.now, .map (some w1.heap.size)] 76)).drew (hC1.kept (((Keeps.refl (fun _ => False) w1).al _).al _).dr (fun _ _ h => h)) (gM.kept (((Keeps.refl (fun _ => False) w1).al _).al _).dr (fun h => h)) (by rw [HN.out]; rfl) HCB.out (by rw [hf1]; simp)
  clear h0 h2 h3
  go_wp2_with fail
  go_region_held3 (fun W => W.cell? ⟨R.sb, 0, none⟩ = some (.int .i64 R.now) ∧ W.cell? ⟨R.sb, 2, none⟩ = some (.int .i64 (R.begun + 1)) ∧ W.cell? ⟨R.sb, 3, none⟩ = some (.map (some b0))) (go_keep) (first | (go_at_call 25; refine hE.mono ?_; rintro e w2 ⟨rfl, fs2, C2, hf2, hC2, hk2, hC2', hm2⟩; have q0 := hk2.cell (p := ⟨R.sb, 0, none⟩) ((((Keeps.refl (fun _ => False) w1).al _).al _).dr.cell g0 (fun h => h)) HSB.out; have q2 := hk2.cell (p := ⟨R.sb, 2, none⟩) ((((Keeps.refl (fun _ => False) w1).al _).al _).dr.cell g2 (fun h => h)) HSB.out; have q3 := hk2.cell (p := ⟨R.sb, 3, none⟩) ((((Keeps.refl (fun _ => False) w1).al _).al _).dr.cell g3 (fun h => h)) HSB.out))
  have HK2 : Hid (Keeps (fun k => k ∈ C1 ∨ k = b0) ((w1.alloc (.map #[] 0)).alloc (.cells #[.int .i64 R.now, .map (some w1.heap.size)] 76)).drew w2) := hk2
  obtain ⟨x1, x2⟩ := HS1.out.entered (C := C1) (n := R.begun + 1) (now := R.now) HWM.out (fun k hk => ⟨(HC1.out k hk).1, by have := hC1.lt k hk; omega, by have := hC1.lt k hk; omega⟩) (by have := HN.out; rw [look_map] at this; simpa using this) HK2.out hm2
  have hE0 : w2.heap[w.heap.size]? = some (.cells #[.int .i64 0] 28 (0, 0)) := by
    rw [x2.block w.heap.size (by have := hk1.size; simp at this; omega) (by rintro (hc | hc); exact absurd (HC1.out _ hc).2 (by omega); exact absurd (fp_lt HST.out b0 (by simp [Rep.fp, Rep.fpWorks, HWM.out])) (by omega))]
    rw [hk1.block w.heap.size (by simp; omega) (by rintro (hc | hc); simp at hc; omega)]
    have := heap_new w (.cells #[.int .i64 0] 28)
    exact (Below.heap_alloc _ _ _ (by simp)).trans this
  have y0 : w2.cell? ⟨w.heap.size, 0, none⟩ = some (.int .i64 0) := cell_of_heap hE0 0
  have y1 : w2.frozen? ⟨w.heap.size, 0, none⟩ = false := frozen_of_heap hE0 0
  have HE0 : Hid (w2.heap[w.heap.size]? = some (.cells #[.int .i64 0] 28 (0, 0))) := hE0
  have HX1 : Hid (StoreAt w2 _) := x1
  have HX2 : Hid (Keeps _ w1 w2) := x2
  clear hE0 x1 x2 hE hm2 hk2 g0 g2 g3 gM hw
  go_wp2
  refine leaves_cons (f := 21) (args := #[.pointer (some ⟨w.heap.size + 1, 0, none⟩), .pointer (some ⟨w.heap.size, 0, none⟩)]) (by simp) (by simp [go_sem]) ?_
  have hE1 := heap_setCell_same (i := 0) HE0.out (.int .i64 0)
  refine (begin1_ok (w.heap.size + 1) w.heap.size _ ?_).mono ?_
  · exact cell_of_heap hE1 0
  rintro e u' w'' ⟨rfl, rfl, rfl⟩
  have hpost : BeginPost R w (w2.setCell ⟨w.heap.size, 0, none⟩ (.int .i64 0)) := by
    refine ⟨w1.heap.size + 1, w1.heap.size, R.wm, ?_, ?_, .inl rfl, ?_, ?_⟩
    · refine HX1.out.kept (Keeps.setCell _ _ _) (fun k hk e => ?_)
      have e' : k = w.heap.size := e
      have hkk : k ∈ R.fp ∨ k = w1.heap.size + 1 ∨ k = w1.heap.size := mem_fp_entered hk
      have hz1 := hk1.size
      simp at hz1
      rcases hkk with h | h | h
      · have := fp_lt HST.out k h; omega
      · omega
      · omega
    · have h1 : Keeps (· ∈ R.fp) w w1 := ((((Keeps.refl (· ∈ R.fp) w).al _).al _).dr).trans hk1 (fun k hk h => by
        rcases h with h | rfl
        · simp at h; omega
        · simp [Rep.fp])
      refine (h1.trans HX2.out (fun k hk h => ?_)).st (.inl (Nat.le_refl _)) _
      rcases h with h | rfl
      · exact absurd (HC1.out k h).2 (by omega)
      · simp [Rep.fp, Rep.fpWorks, HWM.out]
    · have hz1 := hk1.size
      simp at hz1
      omega
    · have hz1 := hk1.size
      simp at hz1
      omega
  have hb := cell_of_heap hE1 0
  generalize w2.setCell ⟨w.heap.size, 0, none⟩ (.int .i64 0) = W3 at hpost hb
  simp at hb
  simp [Leaves, settle, results, Try.results7, go_sem, hb, hpost]

end Go.Proofs.Ytfcocbcihhdbkaa
