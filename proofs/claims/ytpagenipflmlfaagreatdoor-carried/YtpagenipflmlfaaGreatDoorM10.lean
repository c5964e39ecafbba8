import Derived.Test.YtpagenipflmlfaaGreatDoorM09

/- Commit of a work that has written nothing; its deferred step behind a clash. -/

namespace Go.Proofs.YtpagenipflmlfaaGreatDoor

open Go.RowKit Go.Shelf

set_option maxRecDepth 100000 in
set_option maxHeartbeats 400000 in
/-- the deferred step, whatever settle does -/
theorem commit1_any (cb eb : Nat) (w : World) (Q : World → Prop) (h : Calls Tryz.prog 26 #[.pointer (some ⟨cb, 0, none⟩), .nilIface, .pointer (some ⟨eb, 0, none⟩)] w fun e w' => e = .returned (.tuple #[]) ∧ Q w') :
    CallsD Tryz.prog 46 #[.pointer (some ⟨cb, 0, none⟩), .pointer (some ⟨eb, 0, none⟩)] .returning w fun e u' w' => e = .returned (.tuple #[]) ∧ u' = .returning ∧ Q w' := by
  refine callsD_of_wpS Tryz.func46 rfl fun c₀ cs hu => ?_
  apply wpS_region
  simp [wpOpsS, go_sem, recoverD, hu, Tryz.ntmps46]
  refine h.mono ?_
  rintro e w1 ⟨rfl, hk⟩
  cases c₀
  simp_all [bodyPostS, results, Tryz.results46]

set_option maxRecDepth 100000 in
set_option maxHeartbeats 600000 in
theorem commit_empty (R : Rep) (n : Int) (x : WkR) (w : World) (h : StoreAt w R) (hn : look R.works n = some x) (hwr : x.writes = []) :
    Calls Tryz.prog 17 #[.pointer (some ⟨R.sb, 0, none⟩), .int .i64 n] w fun e w' => e = .returned (.tuple #[.int .i64 x.began, .int .i64 0]) ∧ StoreAt w' { R with works := del R.works n } ∧ Keeps (· ∈ R.fp) w w' := by
  obtain ⟨b0, hwm⟩ := wm_some h hn
  have hmf : ∀ (fn : Fn) (first cap : Array Value) (w : World), (Instr.makeFunc fn first cap).run Tryz.prog w = .ok (.func fn first cap) w := fun _ _ _ _ => rfl
  have hW := h.kept (((Keeps.refl (fun _ => False) w).al (.cells #[.int .i64 0] 34)).al (.cells #[.slice none 0 0] 69)) (fun _ _ h => h)
  have hf := find_any R n _ hW
  rw [hn] at hf
  simp only [Option.map_some, Option.getD_some, workPtr] at hf
  have hM : MapAt (Value.int .i64) ((w.alloc (.cells #[.int .i64 0] 34)).alloc (.cells #[.slice none 0 0] 69)) b0 (R.works.map fun p => (p.1, workPtr p.2)) := by have := hW.works.worksMap; rw [hwm] at this; exact this
  have c3 : w.cell? ⟨R.sb, 3, none⟩ = some (.map (some b0)) := (h.cell 3).trans (by rw [← hwm]; rfl)
  have hlt := h.lt
  have hbf : b0 ∈ R.fp := by simp [Rep.fp, Rep.fpWorks, hwm]
  have hbl := fp_lt h _ hbf
  have hrm := remove_work (w.heap.size + 1) [] [w.heap.size + 1] b0 n _ (some ⟨x.blk, 0, none⟩) _ (chg_new w _) hM (by rw [look_map, hn]; rfl) (by simp; omega) (by simp)
  have hxm : (n, x) ∈ R.works := look_mem hn
  obtain ⟨d0, d1, dM⟩ := h.works.work hxm
  obtain ⟨-, -, dMW⟩ := hW.works.work hxm
  rw [hwr] at dMW
  have HDM : Hid (MapAt Value.string ((w.alloc (.cells #[.int .i64 0] 34)).alloc (.cells #[.slice none 0 0] 69)) x.mb []) := dMW
  have hxl : x.blk < w.heap.size := World.block_lt_of_cell? _ _ d0
  have hxb : x.blk ≠ b0 := by
    have hnd := h.nodup
    simp only [Rep.fp, Rep.fpWorks, hwm, Option.toList_some, List.cons_append, List.nil_append, List.nodup_cons, List.mem_append, not_or] at hnd
    intro e
    refine hnd.2.1.1.2 (List.mem_flatMap.2 ⟨(n, x), hxm, by simp [e]⟩)
  have HXB : Hid (x.blk ≠ b0) := hxb
  have HST : Hid (StoreAt w R) := h
  have HWM : Hid (R.wm = some b0) := hwm
  clear hW hM hn h hwm dM dMW hxb hxm
  go_enter_defers Tryz.func17, Tryz.ntmps17
  go_wp2_with (first
    | (go_at_call 47; go_must (refine hf.mono ?_; rintro e w1 ⟨rfl, rfl⟩))
    | (at_len; go_must (refine wpList_len_at _ rfl _ 102 rfl 9 107 Tryz.underlying102 x.mb rfl _ HDM.out ?_; simp only [List.length_nil]))
    | (go_at_call 48; go_must (refine hrm.mono ?_; rintro e w1 ⟨rfl, fs1, C1, hf1, hC1, hk1, hC1', hm1⟩; have hE0 : w1.heap[w.heap.size]? = some (.cells #[.int .i64 0] 34 (0, 0)) := ((hk1.block w.heap.size (by simp; omega) (by rintro (hc | hc); (simp at hc); omega)).trans (Below.heap_alloc _ _ _ (by simp))).trans (heap_new w _); have y0 : w1.cell? ⟨w.heap.size, 0, none⟩ = some (.int .i64 0) := cell_of_heap hE0 0; have y1 : w1.frozen? ⟨w.heap.size, 0, none⟩ = false := frozen_of_heap hE0 0; have HE0 : Hid (w1.heap[w.heap.size]? = some (.cells #[.int .i64 0] 34 (0, 0))) := hE0; clear hE0; have z0 : w1.cell? ⟨x.blk, 0, none⟩ = some (.int .i64 x.began) := hk1.cell (p := ⟨x.blk, 0, none⟩) ((((Keeps.refl (fun _ => False) w).al _).al _).cell (p := ⟨x.blk, 0, none⟩) d0 (fun h => h)) (by rintro (hc | hc); ((simp at hc); omega); exact HXB.out hc))))
  refine leaves_cons (f := 46) (args := #[.pointer (some ⟨w.heap.size + 1, 0, none⟩), .pointer (some ⟨w.heap.size, 0, none⟩)]) (by simp) (by simp [go_sem]) ?_
  have hE1 := heap_setCell_same (i := 0) HE0.out (.int .i64 0)
  refine (commit1_ok (w.heap.size + 1) w.heap.size _ ?_).mono ?_
  · exact cell_of_heap hE1 0
  rintro e u' w'' ⟨rfl, rfl, rfl⟩
  have hpost : StoreAt (w1.setCell ⟨w.heap.size, 0, none⟩ (.int .i64 0)) { R with works := del R.works n } ∧ Keeps (· ∈ R.fp) w (w1.setCell ⟨w.heap.size, 0, none⟩ (.int .i64 0)) := by
    have s1 := (HST.out.kept (((Keeps.refl (fun _ => False) w).al _).al _) (fun _ _ h => h)).removed HWM.out (fun k hk hf => by have := fp_lt HST.out k hf; simp at hk; omega) hk1 hm1
    refine ⟨s1.kept (Keeps.setCell _ _ _) (fun k hk e => ?_), ?_⟩
    · have e' : k = w.heap.size := e
      have := fp_lt HST.out k (fp_del.subset hk)
      omega
    · refine ((((Keeps.refl (· ∈ R.fp) w).al _).al _).trans hk1 (fun k hk h => ?_)).st (.inl (Nat.le_refl _)) _
      rcases h with h | rfl
      · simp at h; omega
      · exact hbf
  have hb := cell_of_heap hE1 0
  generalize w1.setCell ⟨w.heap.size, 0, none⟩ (.int .i64 0) = W3 at hpost hb
  simp at hb
  simp [Leaves, settle, results, Tryz.results17, go_sem, hb]
  exact hpost

end Go.Proofs.YtpagenipflmlfaaGreatDoor

/- Commit of a work that has written. -/

namespace Go.Proofs.YtpagenipflmlfaaGreatDoor

open Go.RowKit Go.Shelf

/-- What Commit leaves: a clash, and all as it was but for the work; or the next state. -/
def CommitPost (R : Rep) (n : Int) (x : WkR) (w : World) (e : Ending) (w' : World) : Prop :=
  ∃ ks, Rises ks ∧ ks.Perm (x.writes.map (·.1)) ∧
    (((∃ k ∈ ks, x.began < lastOf (versOf R.hist k)) ∧ e = .returned (.tuple #[.int .i64 0, .int .i64 4]) ∧ ∃ R0, StoreAt w' R0 ∧ Grew { R with works := del R.works n } [] (verOf x.writes (R.now + 1)) R0 ∧ Keeps (· ∈ R.fp) w w' ∧ (∀ k ∈ R0.fp, k ∈ R.fp ∨ w.heap.size ≤ k) ∧ R0.keys.length ≤ R.keys.length + 30) ∨
     ((∀ k ∈ ks, lastOf (versOf R.hist k) ≤ x.began) ∧ e = .returned (.tuple #[.int .i64 (R.now + 1), .int .i64 0]) ∧ ∃ Rn, StoreAt w' { Rn with now := R.now + 1, works := del R.works n } ∧ Grew R ks (verOf x.writes (R.now + 1)) Rn ∧ Keeps (· ∈ R.fp) w w' ∧ (∀ k ∈ Rn.fp, k ∈ R.fp ∨ w.heap.size ≤ k)))

/-- settle behind a clash -/
theorem settle_back (Rj : Rep) (ks : List ByteArray) (cb eb : Nat) (kbs C : List Nat) (n : Int) (hn : 1 ≤ n ∧ n ≤ 9) (w : World) (hS : StoreAt w Rj) (ht : Tied Rj) (hlen : kbs.length = ks.length) (hl30 : ks.length ≤ 30)
    (hc : Chg w cb (kbs.map clo) C) (hCf : ∀ k ∈ C, k ∉ Rj.fp)
    (hboxes : ∀ i (h : i < kbs.length), w.heap[kbs[i]]? = some (.cells #[.pointer (some ⟨Rj.sb, 0, none⟩)] 23 (0, 0)) ∧ w.heap[kbs[i] + 1]? = some (.cells #[.string (ks.getD i ByteArray.empty)] 9 (0, 0)))
    (hap : ∀ k, (k ∈ kbs ∨ ∃ b ∈ kbs, k = b + 1) → k ∉ Rj.fp) (he : w.cell? ⟨eb, 0, none⟩ = some (.int .i64 n)) (hkl : Rj.keys.length < 1000000000000) (hvl : ∀ x, (versOf Rj.hist x).length < 1000000000000) :
    Calls Tryz.prog 26 #[.pointer (some ⟨cb, 0, none⟩), .nilIface, .pointer (some ⟨eb, 0, none⟩)] w fun e w' => e = .returned (.tuple #[]) ∧ BackAt Rj w ks.reverse w' := by
  obtain ⟨v, hb, hr, hne, rfl⟩ := hc
  rcases hr.2 with ⟨rfl, h0⟩ | ⟨g, cap, cur, rfl, hg, hnc, hcm, hcs, htk⟩
  · have hk0 : ks = [] := List.eq_nil_of_length_eq_zero (by simp at h0; simp [← hlen, h0])
    subst hk0
    refine (settle_none cb eb n hn w (cell_of_heap hb 0) he).mono ?_
    rintro e w' ⟨rfl, hk⟩
    have hB0 : BackAt Rj w [] w := ⟨Rj, hS, rfl, ht, fun k => by simp [cntK, cutN_zero], fun _ h => h, Keeps.refl _ _, Nat.le_refl _⟩
    exact ⟨rfl, hB0.kept hS hk (fun _ h => h.elim)⟩
  · have e1 : (kbs.map clo).length = kbs.length := by simp
    rw [e1] at hb
    refine settle_steps Rj ks cb eb g cap kbs n hn w hS ht hlen hl30 (cell_of_heap hb 0) (fun i hi => ?_) (hCf g (by simp [Value.ownBlock])) (Array.getElem?_eq_some_iff.1 hg).1 hboxes hap he hkl hvl
    have h1 := hr.cellAt i (by simpa using hi)
    rw [h1]
    simp [hi]

theorem vers_small2 {R : Rep} (g : Good R) (key : ByteArray) : (versOf R.hist key).length < 100000000000 := by
  unfold versOf
  cases hl : look R.hist key with
  | none => simp
  | some y =>
    have hm := look_mem hl
    have h2 := rising_length y.vers 0 R.now (g.rising _ hm) (g.states _ hm)
    have h3 := g.now
    simp only [Option.map_some, Option.getD_some]
    omega

/-- The deferred settle of a Commit that clashes. -/
theorem clash_settle {w w1 w2 : World} {R Rj : Rep} {n : Int} {b0 : Nat} {v : Value} {ks : List ByteArray} {ver : ByteArray → Ver} {j : Nat} {kbs C : List Nat} (h : StoreAt w R) (hwm : R.wm = some b0) (g : Good R) (hris : Rises ks) (hj : j < ks.length) (h30 : ks.length ≤ 30) (hkl : R.keys.length < 900000000000)
    (hB : BecomeAt ((w.alloc (.cells #[.int .i64 0] 34)).alloc (.cells #[.slice none 0 0] 69)) R (w.heap.size + 1) [] [w.heap.size + 1] v ks ver j w1 Rj kbs C)
    (hm2 : MapAt (Value.int .i64) w2 b0 (del (R.works.map fun p => (p.1, workPtr p.2)) n)) (hk2 : Keeps (· = b0) w1 w2) (hE : w2.heap[w.heap.size]? = some (.cells #[.int .i64 0] 34 (0, 0))) :
    Calls Tryz.prog 26 #[.pointer (some ⟨w.heap.size + 1, 0, none⟩), .nilIface, .pointer (some ⟨w.heap.size, 0, none⟩)] (w2.setCell ⟨w.heap.size, 0, none⟩ (.int .i64 4)) fun e w' => e = .returned (.tuple #[]) ∧
      ((∃ R0, StoreAt w' R0 ∧ Grew { R with works := del R.works n } [] ver R0 ∧ (∀ k ∈ R0.fp, k ∈ R.fp ∨ w.heap.size + 2 ≤ k) ∧ R0.keys.length ≤ R.keys.length + 30) ∧ Keeps (fun k => (k ∈ R.fp ∨ w.heap.size + 2 ≤ k) ∧ k ≠ w.heap.size) (w2.setCell ⟨w.heap.size, 0, none⟩ (.int .i64 4)) w') := by
  have hsame := hB.grew.same
  have esb : Rj.sb = R.sb := by rw [hsame]
  have ewm : Rj.wm = some b0 := by rw [hsame]; exact hwm
  have ewk : Rj.works = R.works := by rw [hsame]
  have hfl := fp_lt h
  have hbR : b0 ∈ R.fp := by simp [Rep.fp, Rep.fpWorks, hwm]
  have hbl := hfl _ hbR
  have hbj : b0 ∈ Rj.fp := by simp [Rep.fp, Rep.fpWorks, ewm]
  have hz1 : w.heap.size + 2 ≤ w1.heap.size := by have := hB.keeps.size; simpa using this
  have hfE : ∀ k ∈ Rj.fp, k ∈ R.fp ∨ w.heap.size + 2 ≤ k := fun k hk => by
    rcases hB.fpE k hk with h1 | h1
    · exact .inl h1
    · simp at h1; exact .inr (by omega)
  have hcE : ∀ k ∈ C, k = w.heap.size + 1 ∨ w.heap.size + 2 ≤ k := fun k hk => by
    rcases hB.cE k hk with h1 | h1
    · simp at h1; exact .inl h1
    · simp at h1; exact .inr (by omega)
  have hsub : (Rep.fp { Rj with works := del R.works n }).Sublist Rj.fp := by
    have := fp_del (R := Rj) (n := n)
    rw [ewk] at this
    exact this
  have heb : ∀ k ∈ Rj.fp, k ≠ w.heap.size := fun k hk e => by
    rcases hfE k hk with h1 | h1
    · have := hfl k h1; omega
    · omega
  have s2 : StoreAt w2 { Rj with works := del Rj.works n } := hB.store.removed (C := []) ewm (by simp) (hk2.mono (fun _ _ h => .inr h)) (by rw [ewk]; exact hm2)
  rw [ewk] at s2
  have hks : Keeps (· = w.heap.size) w2 (w2.setCell ⟨w.heap.size, 0, none⟩ (.int .i64 4)) := Keeps.setCell w2 ⟨w.heap.size, 0, none⟩ (.int .i64 4)
  have s3 : StoreAt (w2.setCell ⟨w.heap.size, 0, none⟩ (.int .i64 4)) { Rj with works := del R.works n } := s2.kept hks (fun k hk e => heb k (hsub.subset hk) e)
  have hk13 : Keeps (fun k => k = b0 ∨ k = w.heap.size) w1 (w2.setCell ⟨w.heap.size, 0, none⟩ (.int .i64 4)) := (hk2.mono (fun _ _ h => .inl h)).tr hks (fun _ h => .inr h)
  have hE1 : w1.heap[w.heap.size]? = some (.cells #[.int .i64 0] 34 (0, 0)) := by
    rw [← hk2.block w.heap.size (by omega) (fun e => by have e' : w.heap.size = b0 := e; omega)]
    exact hE
  have t3 : Tied { Rj with works := del R.works n } := ⟨hB.grew.tied.rises, hB.grew.tied.keys, hB.grew.tied.filled⟩
  have hchg : Chg (w2.setCell ⟨w.heap.size, 0, none⟩ (.int .i64 4)) (w.heap.size + 1) (kbs.map clo) C := by
    have := hB.chg.kept hk13 (fun k hk e => by
      rcases e with rfl | rfl
      · exact hB.fpC _ hk hbj
      · rcases hcE _ hk with h1 | h1 <;> omega)
    simpa using this
  have hlen : kbs.length = (ks.take j).length := by rw [hB.len, List.length_take]; omega
  have hkbx : ∀ i (hi : i < kbs.length), (kbs[i] ≠ b0 ∧ kbs[i] ≠ w.heap.size) ∧ kbs[i] + 1 ≠ b0 ∧ kbs[i] + 1 ≠ w.heap.size := fun i hi => by
    obtain ⟨h1, h2⟩ := hB.boxes i hi
    refine ⟨⟨fun e => (hB.apart _ (.inr (.inl (List.getElem_mem hi)))).1 (e ▸ hbj), fun e => ?_⟩, fun e => (hB.apart _ (.inr (.inr ⟨_, List.getElem_mem hi, rfl⟩))).1 (e ▸ hbj), fun e => ?_⟩
    · rw [e, hE1] at h1
      simp at h1
    · rw [e, hE1] at h2
      simp at h2
  have hss : ((w.alloc (.cells #[.int .i64 0] 34)).alloc (.cells #[.slice none 0 0] 69)).heap.size = w.heap.size + 2 := by simp
  have hgrew : Grew { R with works := del R.works n } (ks.take j) ver { Rj with works := del R.works n } := ⟨by rw [hsame], hB.grew.vers, t3⟩
  refine (settle_back { Rj with works := del R.works n } (ks.take j) (w.heap.size + 1) w.heap.size kbs C 4 (by omega) _ s3 t3 hlen (by rw [List.length_take]; omega) hchg (fun k hk hf => hB.fpC k hk (hsub.subset hf)) (fun i hi => ?_) (fun k hk hf => ?_) (cell_of_heap (heap_setCell_same (i := 0) hE (.int .i64 4)) 0) ?_ (fun y => ?_)).mono ?_
  · have hij : i < j := by have := hB.len; omega
    have e1 : (ks.take j).getD i ByteArray.empty = ks.getD i ByteArray.empty := by simp [hij]
    obtain ⟨b1, b2⟩ := hB.boxes i hi
    obtain ⟨⟨n1, n2⟩, n3, n4⟩ := hkbx i hi
    refine ⟨?_, ?_⟩
    · show _ = some (Obj.cells #[.pointer (some ⟨Rj.sb, 0, none⟩)] _ _)
      rw [esb, ← b1]
      exact hk13.block _ (Array.getElem?_eq_some_iff.1 b1).1 (by rintro (e | e); exact n1 e; exact n2 e)
    · rw [e1, ← b2]
      exact hk13.block _ (Array.getElem?_eq_some_iff.1 b2).1 (by rintro (e | e); exact n3 e; exact n4 e)
  · exact (hB.apart _ (.inr hk)).1 (hsub.subset hf)
  · show Rj.keys.length < _
    have := hB.klen
    omega
  · show (versOf Rj.hist y).length < _
    have h1 := vers_small2 g y
    rw [hB.grew.vers]
    split
    · simp; omega
    · omega
  · rintro e w' ⟨rfl, hBack⟩
    obtain ⟨R0, g1, g2, g3, g4, g5⟩ := hBack.all hgrew ((rises_nodup hris).sublist (List.take_sublist _ _))
    refine ⟨rfl, ⟨R0, g1, g2, fun k hk => hfE k (hsub.subset (g3 k hk)), ?_⟩, g4.mono (fun k _ hk => ⟨hfE k (hsub.subset hk), heb k (hsub.subset hk)⟩)⟩
    have h1 : R0.keys.length ≤ Rj.keys.length := g5
    have h2 := hB.klen
    omega

set_option maxRecDepth 100000 in
set_option maxHeartbeats 1000000 in
theorem commit_some (R : Rep) (n : Int) (x : WkR) (w : World) (h : StoreAt w R) (g : Good R) (t : Tied R) (hn : look R.works n = some x) (hwr : x.writes ≠ []) (hnow : R.now < 1000000000) (hkl : R.keys.length < 900000000000) :
    Calls Tryz.prog 17 #[.pointer (some ⟨R.sb, 0, none⟩), .int .i64 n] w (CommitPost R n x w) := by
  obtain ⟨b0, hwm⟩ := wm_some h hn
  have hmf : ∀ (fn : Fn) (first cap : Array Value) (w : World), (Instr.makeFunc fn first cap).run Tryz.prog w = .ok (.func fn first cap) w := fun _ _ _ _ => rfl
  have hk0 : Keeps (fun _ => False) w ((w.alloc (.cells #[.int .i64 0] 34)).alloc (.cells #[.slice none 0 0] 69)) := ((Keeps.refl (fun _ => False) w).al _).al _
  have hW := h.kept hk0 (fun _ _ h => h)
  have hf := find_any R n _ hW
  rw [hn] at hf
  simp only [Option.map_some, Option.getD_some, workPtr] at hf
  have c0 : w.cell? ⟨R.sb, 0, none⟩ = some (.int .i64 R.now) := h.cell 0
  have c3 : w.cell? ⟨R.sb, 3, none⟩ = some (.map (some b0)) := (h.cell 3).trans (by rw [← hwm]; rfl)
  have hlt := h.lt
  have hbf : b0 ∈ R.fp := by simp [Rep.fp, Rep.fpWorks, hwm]
  have hbl := fp_lt h _ hbf
  have hxm : (n, x) ∈ R.works := look_mem hn
  obtain ⟨d0, d1, dM⟩ := h.works.work hxm
  obtain ⟨-, -, dMW⟩ := hW.works.work hxm
  have h30 := g.writes30 _ hxm
  obtain ⟨m, hm⟩ : ∃ m, x.writes.length = m + 1 := ⟨x.writes.length - 1, by have := List.length_pos_iff.2 hwr; omega⟩
  have hm30 : m < 30 := by simp at h30; omega
  have hdl : (x.writes.map fun q => (q.1, q.2.val)).length = m + 1 := by rw [List.length_map, hm]
  have HDL : Hid ((x.writes.map fun q => (q.1, q.2.val)).length = m + 1) := hdl
  have HDM : Hid (MapAt Value.string ((w.alloc (.cells #[.int .i64 0] 34)).alloc (.cells #[.slice none 0 0] 69)) x.mb (x.writes.map fun q => (q.1, q.2.val))) := dMW
  have hxl : x.blk < w.heap.size := World.block_lt_of_cell? _ _ d0
  have hbc := become_any R n x (w.heap.size + 1) [w.heap.size + 1] _ hW g t hxm (chg_new w _) (fun k hk hf => by have := fp_lt h k hf; simp at hk; omega) hkl
  unfold workPtr at hbc
  have hn0 := g.now.1
  have HST : Hid (StoreAt w R) := h
  have HG : Hid (Good R) := g
  have HWM : Hid (R.wm = some b0) := hwm
  have HN : Hid (look R.works n = some x) := hn
  have HK0 : Hid (Keeps (fun _ => False) w ((w.alloc (.cells #[.int .i64 0] 34)).alloc (.cells #[.slice none 0 0] 69))) := hk0
  clear hW hn h g t hwm dM dMW hxm hdl hm h30 hwr hk0
  go_enter_defers Tryz.func17, Tryz.ntmps17
  go_wp2_with (first
    | (go_at_call 47; go_must (refine hf.mono ?_; rintro e w1 ⟨rfl, rfl⟩))
    | (at_len; go_must (refine wpList_len_at _ rfl _ 102 rfl 9 107 Tryz.underlying102 x.mb rfl _ HDM.out ?_; rw [HDL.out])))
  refine hbc.mono ?_
  rintro e w1 ⟨v, ks, hris, hperm, ⟨j, Rj, kbs, C, hj, hclash, rfl, hB⟩ | ⟨hlast, rfl, Rn, fs, C, hS, hG, hC, hfl, hk1, hCf, hfE, hCE⟩⟩
  · have hsame := hB.grew.same
    have esb : Rj.sb = R.sb := by rw [hsame]
    have ewm : Rj.wm = some b0 := by rw [hsame]; exact HWM.out
    have ewk : Rj.works = R.works := by rw [hsame]
    have hS := hB.store
    have hM1 : MapAt (Value.int .i64) w1 b0 (R.works.map fun p => (p.1, workPtr p.2)) := by
      have := hS.works.worksMap
      rw [ewm, ewk] at this
      exact this
    have c31 : w1.cell? ⟨R.sb, 3, none⟩ = some (.map (some b0)) := by
      have := hS.cell 3
      rw [esb] at this
      rw [this]
      simp [topCells, ewm]
    have hz1 : w.heap.size + 2 ≤ w1.heap.size := by have := hB.keeps.size; simpa using this
    have hE1 : w1.heap[w.heap.size]? = some (.cells #[.int .i64 0] 34 (0, 0)) := ((hB.keeps.block w.heap.size (by simp; omega) (by rintro (hc | hc); exact absurd (fp_lt HST.out _ hc) (by omega); (simp at hc))).trans (Below.heap_alloc _ _ _ (by simp))).trans (heap_new w _)
    have HE1 : Hid (w1.heap[w.heap.size]? = some (.cells #[.int .i64 0] 34 (0, 0))) := hE1
    have HB : Hid (BecomeAt ((w.alloc (.cells #[.int .i64 0] 34)).alloc (.cells #[.slice none 0 0] 69)) R (w.heap.size + 1) [] [w.heap.size + 1] v ks (verOf x.writes (R.now + 1)) j w1 Rj kbs C) := hB
    have HM1 : Hid (MapAt (Value.int .i64) w1 b0 (R.works.map fun p => (p.1, workPtr p.2))) := hM1
    have HR : Hid (Rises ks ∧ ks.Perm (x.writes.map (·.1)) ∧ ∃ k ∈ ks, x.began < lastOf (versOf R.hist k)) := ⟨hris, hperm, ks[j], List.getElem_mem hj, hclash⟩
    have hsl1 : R.sb < w1.heap.size := by omega
    have hel1 : w.heap.size < w1.heap.size := by omega
    clear hsame esb ewm ewk hM1 hE1 hS hris hperm hclash c0 c3 hB
    go_wp2_with (first
      | (at_delete; go_must (refine wpList_delete_at _ rfl _ _ 58 3 rfl 101 intKeyOk Tryz.underlying58 Tryz.underlying3 b0 rfl n rfl _ HM1.out ?_; intro w2 hm2 hk2 hz2; have hE0 : w2.heap[w.heap.size]? = some (.cells #[.int .i64 0] 34 (0, 0)) := (hk2.block w.heap.size (by omega) (fun e => by (have e' : w.heap.size = b0 := e); omega)).trans HE1.out; have y0 : w2.cell? ⟨w.heap.size, 0, none⟩ = some (.int .i64 0) := cell_of_heap hE0 0; have y1 : w2.frozen? ⟨w.heap.size, 0, none⟩ = false := frozen_of_heap hE0 0; have HE0 : Hid (w2.heap[w.heap.size]? = some (.cells #[.int .i64 0] 34 (0, 0))) := hE0; clear hE0)))
    refine leaves_cons (f := 46) (args := #[.pointer (some ⟨w.heap.size + 1, 0, none⟩), .pointer (some ⟨w.heap.size, 0, none⟩)]) (by simp) (by simp [go_sem]) ?_
    have hE1 := heap_setCell_same (i := 0) HE0.out (.int .i64 4)
    refine (commit1_any (w.heap.size + 1) w.heap.size _ _ (clash_settle HST.out HWM.out HG.out HR.out.1 hj (by have h1 := HR.out.2.1.length_eq; have h2 := HG.out.writes30 _ (look_mem HN.out); simp at h1 h2; omega) hkl HB.out hm2 hk2 HE0.out)).mono ?_
    rintro e u' w'' ⟨rfl, rfl, hK⟩
    have hb : w''.cell? ⟨w.heap.size, 0, none⟩ = some (.int .i64 4) := hK.2.cell (p := ⟨w.heap.size, 0, none⟩) (cell_of_heap hE1 0) (fun hf => by have := hf.2; simp at this)
    have hpost : CommitPost R n x w (.returned (.tuple #[.int .i64 0, .int .i64 4])) w'' := by
      obtain ⟨⟨R0, s0, g0, f0, l0⟩, hkK⟩ := hK
      refine ⟨ks, HR.out.1, HR.out.2.1, .inl ⟨HR.out.2.2, rfl, R0, s0, g0, ?_, fun k hk => ?_, l0⟩⟩
      · have h1 : Keeps (· ∈ R.fp) w w1 := (HK0.out.mono (fun _ _ h => h.elim)).trans HB.out.keeps (fun k hk h => by
          rcases h with h | h
          · exact h
          · simp at h; omega)
        have h2 := h1.tr hk2 (fun k h => by have h' : k = b0 := h; exact h' ▸ hbf)
        refine (h2.st (p := ⟨w.heap.size, 0, none⟩) (.inl (Nat.le_refl _)) (.int .i64 4)).trans hkK (fun k hk h => ?_)
        rcases h.1 with h1 | h1
        · exact h1
        · omega
      · rcases f0 k hk with h1 | h1
        · exact .inl h1
        · exact .inr (by omega)
    simp [Leaves, settle, results, Tryz.results17, go_sem, hb]
    exact hpost
  · have hsame := hG.same
    have esb : Rn.sb = R.sb := by rw [hsame]
    have ewm : Rn.wm = some b0 := by rw [hsame]; exact HWM.out
    have ewk : Rn.works = R.works := by rw [hsame]
    have hbn : b0 ∈ Rn.fp := by simp [Rep.fp, Rep.fpWorks, ewm]
    have hsn : R.sb ∈ Rn.fp := by rw [← esb]; simp [Rep.fp]
    have hM1 : MapAt (Value.int .i64) w1 b0 (R.works.map fun p => (p.1, workPtr p.2)) := by
      have := hS.works.worksMap
      rw [show ({ Rn with now := R.now + 1 } : Rep).wm = some b0 from ewm, show ({ Rn with now := R.now + 1 } : Rep).works = R.works from ewk] at this
      exact this
    have c31 : w1.cell? ⟨R.sb, 3, none⟩ = some (.map (some b0)) := by
      have := hS.cell 3
      rw [show ({ Rn with now := R.now + 1 } : Rep).sb = R.sb from esb] at this
      rw [this]
      simp [topCells, ewm]
    have c01 : w1.cell? ⟨R.sb, 0, none⟩ = some (.int .i64 (R.now + 1)) := by
      have := hS.cell 0
      rw [show ({ Rn with now := R.now + 1 } : Rep).sb = R.sb from esb] at this
      rw [this]
      simp [topCells]
    have hbC : b0 ∉ C := fun hf => hCf _ hf hbn
    have hsC : R.sb ∉ C := fun hf => hCf _ hf hsn
    have hsb0 : R.sb ≠ b0 := by
      have hnd := HST.out.nodup
      simp only [Rep.fp, Rep.fpWorks, HWM.out, Option.toList_some, List.cons_append, List.nil_append, List.nodup_cons, List.mem_cons, List.mem_append, not_or] at hnd
      exact hnd.1.1
    have hflen : fs.length < 1000000000000 := by
      have h1 := hperm.length_eq
      have h2 := HG.out.writes30 _ (look_mem HN.out)
      simp at h1 h2 hfl
      omega
    have hrm := remove_work (w.heap.size + 1) fs C b0 n _ (some ⟨x.blk, 0, none⟩) w1 hC hM1 (by rw [look_map, HN.out]; rfl) hbC hflen
    have hz1 : w.heap.size + 2 ≤ w1.heap.size := by have := hk1.size; simpa using this
    have heC : w.heap.size ∉ C := fun hf => by
      rcases hCE _ hf with h1 | h1
      · simp at h1
      · simp at h1; omega
    have hE1 : w1.heap[w.heap.size]? = some (.cells #[.int .i64 0] 34 (0, 0)) := ((hk1.block w.heap.size (by simp; omega) (by rintro (hc | hc); exact absurd (fp_lt HST.out _ hc) (by omega); (simp at hc))).trans (Below.heap_alloc _ _ _ (by simp))).trans (heap_new w _)
    have HE1 : Hid (w1.heap[w.heap.size]? = some (.cells #[.int .i64 0] 34 (0, 0)) ∧ w.heap.size ∉ C ∧ R.sb ∉ C ∧ R.sb ≠ b0) := ⟨hE1, heC, hsC, hsb0⟩
    have HS : Hid (StoreAt w1 { Rn with now := R.now + 1 }) := hS
    have HGR : Hid (Grew R ks (verOf x.writes (R.now + 1)) Rn) := hG
    have HR : Hid (Rises ks ∧ ks.Perm (x.writes.map (·.1)) ∧ ∀ k ∈ ks, lastOf (versOf R.hist k) ≤ x.began) := ⟨hris, hperm, hlast⟩
    have HK1 : Hid (Keeps (fun k => k ∈ R.fp ∨ k ∈ [w.heap.size + 1]) ((w.alloc (.cells #[.int .i64 0] 34)).alloc (.cells #[.slice none 0 0] 69)) w1) := hk1
    have HCF : Hid ((∀ k ∈ C, k ∉ Rn.fp) ∧ (∀ k ∈ C, k ∈ [w.heap.size + 1] ∨ ((w.alloc (.cells #[.int .i64 0] 34)).alloc (.cells #[.slice none 0 0] 69)).heap.size ≤ k)) := ⟨hCf, hCE⟩
    have HFE : Hid (∀ k ∈ Rn.fp, k ∈ R.fp ∨ ((w.alloc (.cells #[.int .i64 0] 34)).alloc (.cells #[.slice none 0 0] 69)).heap.size ≤ k) := hfE
    have HEE : Hid (Rn.sb = R.sb ∧ Rn.wm = some b0 ∧ Rn.works = R.works) := ⟨esb, ewm, ewk⟩
    have hsl1 : R.sb < w1.heap.size := by omega
    have hel1 : w.heap.size < w1.heap.size := by omega
    clear hsame esb ewm ewk hbn hsn hM1 hbC hsC hsb0 hflen heC hE1 hS hG hris hperm hlast hk1 hCf hCE hfE hC hfl c0 c3
    go_wp2_with (first
      | (go_at_call 48; go_must (refine hrm.mono ?_; rintro e w2 ⟨rfl, fs2, C2, hf2, hC2, hk2, hC2', hm2⟩; obtain ⟨q1, q2, q3, q4⟩ := HE1.out; have hE0 : w2.heap[w.heap.size]? = some (.cells #[.int .i64 0] 34 (0, 0)) := (hk2.block w.heap.size (by omega) (by rintro (hc | hc); exact q2 hc; omega)).trans q1; have y0 : w2.cell? ⟨w.heap.size, 0, none⟩ = some (.int .i64 0) := cell_of_heap hE0 0; have y1 : w2.frozen? ⟨w.heap.size, 0, none⟩ = false := frozen_of_heap hE0 0; have HE0 : Hid (w2.heap[w.heap.size]? = some (.cells #[.int .i64 0] 34 (0, 0))) := hE0; have z0 : w2.cell? ⟨R.sb, 0, none⟩ = some (.int .i64 (R.now + 1)) := hk2.cell (p := ⟨R.sb, 0, none⟩) c01 (by rintro (hc | hc); exact q3 hc; exact q4 hc); clear hE0 q1 q2 q3 q4)))
    refine leaves_cons (f := 46) (args := #[.pointer (some ⟨w.heap.size + 1, 0, none⟩), .pointer (some ⟨w.heap.size, 0, none⟩)]) (by simp) (by simp [go_sem]) ?_
    have hE1 := heap_setCell_same (i := 0) HE0.out (.int .i64 0)
    refine (commit1_ok (w.heap.size + 1) w.heap.size _ ?_).mono ?_
    · exact cell_of_heap hE1 0
    rintro e u' w'' ⟨rfl, rfl, rfl⟩
    have hpost : CommitPost R n x w (.returned (.tuple #[.int .i64 (R.now + 1), .int .i64 0])) (w2.setCell ⟨w.heap.size, 0, none⟩ (.int .i64 0)) := by
      obtain ⟨esb, ewm, ewk⟩ := HEE.out
      obtain ⟨hCf, hCE⟩ := HCF.out
      have hfE := HFE.out
      have s1 : StoreAt w2 { Rn with now := R.now + 1, works := del Rn.works n } := HS.out.removed (R := { Rn with now := R.now + 1 }) ewm (fun k hk hf => hCf k hk hf) hk2 (by rw [show ({ Rn with now := R.now + 1 } : Rep).works = R.works from ewk]; exact hm2)
      have hfp : ∀ k ∈ Rn.fp, k ∈ R.fp ∨ w.heap.size + 2 ≤ k := fun k hk => by
        rcases hfE k hk with h1 | h1
        · exact .inl h1
        · simp at h1; exact .inr (by omega)
      rw [ewk] at s1
      refine ⟨ks, HR.out.1, HR.out.2.1, .inr ⟨HR.out.2.2, rfl, Rn, s1.kept (Keeps.setCell _ _ _) (fun k hk e => ?_), HGR.out, ?_, fun k hk => ?_⟩⟩
      · have e' : k = w.heap.size := e
        have hk' : k ∈ Rn.fp := by
          have := (fp_del (R := { Rn with now := R.now + 1 }) (n := n)).subset (show k ∈ Rep.fp { Rn with now := R.now + 1, works := del Rn.works n } by rw [ewk]; exact hk)
          exact this
        rcases hfp k hk' with h1 | h1
        · have := fp_lt HST.out k h1; omega
        · omega
      · have h1 : Keeps (· ∈ R.fp) w w1 := (HK0.out.mono (fun _ _ h => h.elim)).trans HK1.out (fun k hk h => by
          rcases h with h | h
          · exact h
          · simp at h; omega)
        refine (h1.trans hk2 (fun k hk h => ?_)).st (.inl (Nat.le_refl _)) _
        rcases h with h | rfl
        · rcases hCE k h with h1 | h1
          · simp at h1; omega
          · simp at h1; omega
        · exact hbf
      · rcases hfp k hk with h1 | h1
        · exact .inl h1
        · exact .inr (by omega)
    have hb := cell_of_heap hE1 0
    generalize w2.setCell ⟨w.heap.size, 0, none⟩ (.int .i64 0) = W3 at hpost hb
    simp at hb
    simp [Leaves, settle, results, Tryz.results17, go_sem, hb]
    exact hpost

end Go.Proofs.YtpagenipflmlfaaGreatDoor

/- New: a store at the state 0. -/

namespace Go.Proofs.YtpagenipflmlfaaGreatDoor

open Go.RowKit

/-- a store that nothing has happened to -/
def Rep.zero (b : Nat) : Rep := ⟨b, 0, 0, 0, none, [], none, [], 0, none, [], .slice none 0 0, [], none, []⟩

set_option maxRecDepth 100000 in
set_option maxHeartbeats 400000 in
theorem new_any (w : World) :
    Calls Tryz.prog 14 #[] w fun e w' => e = .returned (.pointer (some ⟨w.heap.size, 0, none⟩)) ∧ StoreAt w' (Rep.zero w.heap.size) ∧ Keeps (fun _ => False) w w' := by
  go_enter Tryz.func14, Tryz.ntmps14
  go_wp2
  go_ret
  refine ⟨rfl, ⟨heap_new w _, ⟨rfl, fun p hp => (by cases hp), rfl, rfl⟩, ⟨Row.nil _ _ _, rfl, fun p hp => (by cases hp)⟩, by simp [Rep.fp, Rep.fpWorks, Rep.fpPast, Rep.zero, pcOf, Value.ownBlock]⟩, Keeps.alloc _ _ _⟩

theorem tied_zero (b : Nat) : Tied (Rep.zero b) := ⟨List.Pairwise.nil, fun k => rfl, fun p hp => by cases hp⟩

end Go.Proofs.YtpagenipflmlfaaGreatDoor

/- Look: what it counts. -/

namespace Go.Proofs.YtpagenipflmlfaaGreatDoor

open Go.RowKit

theorem IterAt.left_eq {α : Type} {mk : α → Value} {w : World} {r b : Nat} {l left : List (α × Value)} (h : IterAt mk w r b l left) : w.rangeLeft b r = left.length := by
  obtain ⟨es, clock, since, seen, hb, _, _, hr, _, _, he⟩ := h
  have := congrArg List.length he
  simp at this
  unfold World.rangeLeft
  rw [hb, hr]
  exact this

theorem del_less {α β : Type} [DecidableEq α] : ∀ {l : List (α × β)} {k : α} {v : β}, (k, v) ∈ l → (del l k).length < l.length
  | [], _, _, h => by cases h
  | (a, x) :: r, k, v, h => by
    unfold del
    by_cases e : a = k
    · rw [if_pos e]
      simp
    · rw [if_neg e]
      rcases List.mem_cons.1 h with h1 | h1
      · cases h1
        exact absurd rfl e
      · simp only [List.length_cons]
        have := del_less h1
        omega

end Go.Proofs.YtpagenipflmlfaaGreatDoor

/- Look: what it counts, of maps that are nil. -/

namespace Go.Proofs.YtpagenipflmlfaaGreatDoor

open Go.RowKit

theorem range_nil {P : Program} {t kt e : TypeId} (ht : P.underlying t = some (.map kt e)) (w : World) : (Instr.range t (.map none)).run P w = .ok (.pointer (some ⟨w.heap.size, 0, none⟩)) (w.alloc (.mapIter none 0 #[] 0)) := by
  simp [Instr.range, run_underlying ht]

theorem next_nil {P : Program} {r : Nat} (ty : TypeId) (w : World) (h : w.heap[r]? = some (.mapIter none 0 #[] 0)) : (Instr.next (.pointer (some ⟨r, 0, none⟩)) false ty).run P w = .ok (.tuple #[.bool false]) w := by
  have hg : (getObj r).run P w = .ok (.mapIter none 0 #[] 0) w := by simp [getObj, Sem.run, h]
  simp [Instr.next, hg]

end Go.Proofs.YtpagenipflmlfaaGreatDoor

/- Look. -/

namespace Go.Proofs.YtpagenipflmlfaaGreatDoor

open Go.RowKit

theorem look_results (W : World) (b : Nat) (x0 x1 x2 x3 x4 x5 : Value) (tmps : Array Value) (h2 : tmps.getD 2 undef = .pointer (some ⟨b, 0, none⟩)) (h : W.heap[b]? = some (.cells #[x0, x1, x2, x3, x4, x5] 32 (0, 0))) :
    (results Tryz.f6 tmps).run Tryz.prog W = .ok (.agg #[x0, x1, x2, x3, x4, x5]) W := by
  have e0 := cell_of_heap h 0
  have e1 := cell_of_heap h 1
  have e2 := cell_of_heap h 2
  have e3 := cell_of_heap h 3
  have e4 := cell_of_heap h 4
  have e5 := cell_of_heap h 5
  simp at e0 e1 e2 e3 e4 e5
  simp only [Array.getD_eq_getD_getElem?] at h2
  simp [results, Tryz.results6, go_sem, h2, e0, e1, e2, e3, e4, e5]

theorem heap_set6 {W : World} {b : Nat} {x0 x1 x2 x3 x4 x5 : Value} {e : TypeId} (h : W.heap[b]? = some (.cells #[x0, x1, x2, x3, x4, x5] e (0, 0))) (v0 v1 v2 v3 v4 v5 : Value) :
    ((((((W.setCell ⟨b, 0, none⟩ v0).setCell ⟨b, 1, none⟩ v1).setCell ⟨b, 2, none⟩ v2).setCell ⟨b, 3, none⟩ v3).setCell ⟨b, 4, none⟩ v4).setCell ⟨b, 5, none⟩ v5).heap[b]? = some (.cells #[v0, v1, v2, v3, v4, v5] e (0, 0)) := by
  have := heap_setCell_same (i := 5) (heap_setCell_same (i := 4) (heap_setCell_same (i := 3) (heap_setCell_same (i := 2) (heap_setCell_same (i := 1) (heap_setCell_same (i := 0) h v0) v1) v2) v3) v4) v5
  simpa using this

theorem keep6 {W : World} {s e : Nat} {v0 v1 v2 v3 v4 v5 u0 u1 u3 u6 : Value} (h : s ≠ e) (h0 : W.cell? ⟨s, 0, none⟩ = some u0) (h1 : W.cell? ⟨s, 1, none⟩ = some u1) (h3 : W.cell? ⟨s, 3, none⟩ = some u3) (h6 : W.cell? ⟨s, 6, none⟩ = some u6) :
    let W' := (((((W.setCell ⟨e, 0, none⟩ v0).setCell ⟨e, 1, none⟩ v1).setCell ⟨e, 2, none⟩ v2).setCell ⟨e, 3, none⟩ v3).setCell ⟨e, 4, none⟩ v4).setCell ⟨e, 5, none⟩ v5
    W'.cell? ⟨s, 0, none⟩ = some u0 ∧ W'.cell? ⟨s, 1, none⟩ = some u1 ∧ W'.cell? ⟨s, 3, none⟩ = some u3 ∧ W'.cell? ⟨s, 6, none⟩ = some u6 := by
  have hk : Keeps (· = e) W ((((((W.setCell ⟨e, 0, none⟩ v0).setCell ⟨e, 1, none⟩ v1).setCell ⟨e, 2, none⟩ v2).setCell ⟨e, 3, none⟩ v3).setCell ⟨e, 4, none⟩ v4).setCell ⟨e, 5, none⟩ v5) :=
    ((((((Keeps.refl (· = e) W).st (.inr rfl) _).st (.inr rfl) _).st (.inr rfl) _).st (.inr rfl) _).st (.inr rfl) _).st (.inr rfl) _
  exact ⟨hk.cell (p := ⟨s, 0, none⟩) h0 h, hk.cell (p := ⟨s, 1, none⟩) h1 h, hk.cell (p := ⟨s, 3, none⟩) h3 h, hk.cell (p := ⟨s, 6, none⟩) h6 h⟩

set_option maxRecDepth 100000 in
set_option maxHeartbeats 800000 in
/-- Look, by what it counts -/
theorem look_core (R : Rep) (w : World) (h : StoreAt w R) (pp pc : Int → Prop)
    (hP : ∀ W, Keeps (fun _ => False) w W → Calls Tryz.prog 23 #[.pointer (some ⟨R.sb, 0, none⟩)] W fun e w' => ∃ c : Int, pp c ∧ e = .returned (.int .i64 c) ∧ Keeps (fun _ => False) W w')
    (hC : ∀ W, Keeps (fun _ => False) w W → Calls Tryz.prog 24 #[.pointer (some ⟨R.sb, 7, none⟩)] W fun e w' => ∃ c : Int, pc c ∧ e = .returned (.int .i64 c) ∧ Keeps (fun _ => False) W w') :
    Calls Tryz.prog 6 #[.pointer (some ⟨R.sb, 0, none⟩)] w fun e w' => (∃ p c : Int, pp p ∧ pc c ∧ e = .returned (.agg #[.int .i64 R.now, .int .i64 R.floor, .int .i64 R.works.length, .int .i64 p, .int .i64 c, .int .i64 R.copyings.length])) ∧ Keeps (fun _ => False) w w' := by
  have HP := hid hP
  have HC := hid hC
  have HL : Hid (∀ W, Keeps (fun _ => False) w W → (Builtin.len_ #[58] 3 #[.map R.wm]).run Tryz.prog W = .ok (.int .i64 R.works.length) W) := fun W hk => by
    have := (h.kept hk (fun _ _ h => h)).works.worksMap.length (P := Tryz.prog) Tryz.underlying58 3
    rwa [List.length_map] at this
  have HL6 : Hid (∀ W, Keeps (fun _ => False) w W → (Builtin.len_ #[60] 3 #[.map R.cm]).run Tryz.prog W = .ok (.int .i64 R.copyings.length) W) := fun W hk => by
    have := (h.kept hk (fun _ _ h => h)).works.copyMap.length (P := Tryz.prog) Tryz.underlying60 3
    rwa [List.length_map] at this
  have hc0 : w.cell? ⟨R.sb, 0, none⟩ = some (.int .i64 R.now) := h.cell 0
  have hc1 : w.cell? ⟨R.sb, 1, none⟩ = some (.int .i64 R.floor) := h.cell 1
  have hc3 : w.cell? ⟨R.sb, 3, none⟩ = some (.map R.wm) := h.cell 3
  have hc6 : w.cell? ⟨R.sb, 6, none⟩ = some (.map R.cm) := h.cell 6
  have hlt := h.lt
  clear h hP hC
  go_enter Tryz.func6, Tryz.ntmps6
  go_wp2_with fail
  have hl0 := HL.out ((w.alloc (.cells #[.int .i64 0, .int .i64 0, .int .i64 0, .int .i64 0, .int .i64 0, .int .i64 0] 32)).drew) (((Keeps.refl (fun _ => False) w).al _).dr)
  have hm0 := HL6.out ((w.alloc (.cells #[.int .i64 0, .int .i64 0, .int .i64 0, .int .i64 0, .int .i64 0, .int .i64 0] 32)).drew) (((Keeps.refl (fun _ => False) w).al _).dr)
  have hne : R.sb ≠ w.heap.size := by omega
  have HC0 := hid (And.intro hc0 (And.intro hc1 (And.intro hc3 hc6)))
  go_region_held3 (fun W => W.cell? ⟨R.sb, 0, none⟩ = some (.int .i64 R.now) ∧ W.cell? ⟨R.sb, 1, none⟩ = some (.int .i64 R.floor) ∧ W.cell? ⟨R.sb, 3, none⟩ = some (.map R.wm) ∧ W.cell? ⟨R.sb, 6, none⟩ = some (.map R.cm) ∧ (Builtin.len_ #[58] 3 #[.map R.wm]).run Tryz.prog W = .ok (.int .i64 R.works.length) W ∧ (Builtin.len_ #[60] 3 #[.map R.cm]).run Tryz.prog W = .ok (.int .i64 R.copyings.length) W) (first | go_keep | (refine ⟨(keep6 hne r0 r1 r3 r6).1, (keep6 hne r0 r1 r3 r6).2.1, (keep6 hne r0 r1 r3 r6).2.2.1, (keep6 hne r0 r1 r3 r6).2.2.2, HL.out _ ?_, HL6.out _ ?_⟩; all_goals exact (((((hk4'.st (.inl (Nat.le_refl _)) _).st (.inl (Nat.le_refl _)) _).st (.inl (Nat.le_refl _)) _).st (.inl (Nat.le_refl _)) _).st (.inl (Nat.le_refl _)) _).st (.inl (Nat.le_refl _)) _)) (first
    | (go_at_call 23; refine (HP.out _ (((Keeps.refl (fun _ => False) w).al _).dr)).mono ?_; rintro e w3 ⟨pn, hpn, rfl, hk3⟩; have hk3' : Keeps (fun _ => False) w w3 := (((Keeps.refl (fun _ => False) w).al _).dr).tr hk3 (fun _ h => h); have hl3 := HL.out w3 hk3'; have hm3 := HL6.out w3 hk3'; have p0 := hk3'.cell (p := ⟨R.sb, 0, none⟩) HC0.out.1 (fun h => h); have p1 := hk3'.cell (p := ⟨R.sb, 1, none⟩) HC0.out.2.1 (fun h => h); have p3 := hk3'.cell (p := ⟨R.sb, 3, none⟩) HC0.out.2.2.1 (fun h => h); have p6 := hk3'.cell (p := ⟨R.sb, 6, none⟩) HC0.out.2.2.2 (fun h => h); have HPN := hid hpn; clear hpn)
    | (go_at_call 24; refine (HC.out _ hk3').mono ?_; rintro e w4 ⟨c, hcc, rfl, hk4⟩; have HCC := hid hcc; clear hcc; have hk4' : Keeps (fun _ => False) w w4 := hk3'.tr hk4 (fun _ h => h); have hl4 := HL.out w4 hk4'; have hm4 := HL6.out w4 hk4'; have r0 := hk4'.cell (p := ⟨R.sb, 0, none⟩) HC0.out.1 (fun h => h); have r1 := hk4'.cell (p := ⟨R.sb, 1, none⟩) HC0.out.2.1 (fun h => h); have r3 := hk4'.cell (p := ⟨R.sb, 3, none⟩) HC0.out.2.2.1 (fun h => h); have r6 := hk4'.cell (p := ⟨R.sb, 6, none⟩) HC0.out.2.2.2 (fun h => h); have hE : w4.heap[w.heap.size]? = some (.cells #[.int .i64 0, .int .i64 0, .int .i64 0, .int .i64 0, .int .i64 0, .int .i64 0] 32 (0, 0)) := box_kept ((Keeps.drew (fun _ => False) _).tr (hk3.tr hk4 (fun _ h => h)) (fun _ h => h)) (fun h => h); have t0 := cell_of_heap hE 0; have t1 := cell_of_heap hE 1; have t2 := cell_of_heap hE 2; have t3 := cell_of_heap hE 3; have t4 := cell_of_heap hE 4; have t5 := cell_of_heap hE 5; have u0 := frozen_of_heap hE 0; have u1 := frozen_of_heap hE 1; have u2 := frozen_of_heap hE 2; have u3 := frozen_of_heap hE 3; have u4 := frozen_of_heap hE 4; have u5 := frozen_of_heap hE 5))
  clear hl0 hl3 hl4 hm0 hm3 hm4 p0 p1 p3 p6 r0 r1 r3 r6 t0 t1 t2 t3 t4 t5 u0 u1 u2 u3 u4 u5
  have HE := hid hE
  clear hE
  go_wp2
  refine bodyPost_ret (look_results _ _ _ _ _ _ _ _ _ rfl (heap_set6 HE.out _ _ _ _ _ _)) rfl ⟨⟨pn, c, HPN.out, HCC.out, rfl⟩, ?_⟩
  exact (((((hk4'.st (.inl (Nat.le_refl _)) _).st (.inl (Nat.le_refl _)) _).st (.inl (Nat.le_refl _)) _).st (.inl (Nat.le_refl _)) _).st (.inl (Nat.le_refl _)) _).st (.inl (Nat.le_refl _)) _

end Go.Proofs.YtpagenipflmlfaaGreatDoor

/- What is good of a store, carried on. -/

namespace Go.Proofs.YtpagenipflmlfaaGreatDoor

open Go.RowKit

theorem Good.del {R : Rep} (g : Good R) (n : Int) : Good { R with works := del R.works n } := by
  have hs : ∀ p ∈ Go.Proofs.YtpagenipflmlfaaGreatDoor.del R.works n, p ∈ R.works := fun p hp => (del_sublist _ _).subset hp
  exact ⟨g.now, g.begun, Nat.le_trans (del_sublist R.works n).length_le g.works8, fun p hp => g.numbers p (hs p hp), fun p hp => g.began p (hs p hp), fun p hp => g.writes30 p (hs p hp), fun p hp => g.wkeys p (hs p hp), g.rising, g.states, g.filled, g.hkeys, g.hvals, g.sorted, g.keys⟩

theorem vers_of_mem {hist : List (ByteArray × HsR)} (hn : (hist.map (·.1)).Nodup) {p : ByteArray × HsR} (hp : p ∈ hist) : look hist p.1 = some p.2 ∧ versOf hist p.1 = p.2.vers := by
  have h1 : look hist p.1 = some p.2 := by
    induction hist with
    | nil => cases hp
    | cons q r ih =>
      obtain ⟨a, y⟩ := q
      rw [List.map_cons, List.nodup_cons] at hn
      unfold look
      rcases List.mem_cons.1 hp with e | hp'
      · cases e
        simp
      · have hne : a ≠ p.1 := fun e => hn.1 (List.mem_map.2 ⟨p, hp', e.symm⟩)
        rw [if_neg hne]
        exact ih hn.2 hp'
  exact ⟨h1, by unfold versOf; rw [h1]; rfl⟩

theorem vers_mem {hist : List (ByteArray × HsR)} {k : ByteArray} (h : versOf hist k ≠ []) : ∃ p ∈ hist, p.1 = k ∧ p.2.vers = versOf hist k := by
  unfold versOf at h ⊢
  cases hl : look hist k with
  | none => rw [hl] at h; simp at h
  | some y => exact ⟨(k, y), look_mem hl, rfl, rfl⟩

theorem base_vers {R : Rep} (g : Good R) (k : ByteArray) : Rising (versOf R.hist k) ∧ (∀ v ∈ versOf R.hist k, (0 ≤ v.state ∧ v.state ≤ R.now) ∧ valB v.value = true) ∧ (versOf R.hist k ≠ [] → keyB k = true) := by
  by_cases h : versOf R.hist k = []
  · rw [h]
    exact ⟨List.Pairwise.nil, fun v hv => (by cases hv), fun h => absurd rfl h⟩
  · obtain ⟨p, hp, rfl, e⟩ := vers_mem h
    rw [← e]
    exact ⟨g.rising p hp, fun v hv => ⟨g.states p hp v hv, g.hvals p hp v hv⟩, fun _ => g.hkeys p hp⟩

/-- Versions more: still good, at the next state. -/
theorem Good.grew {R Rn : Rep} {ks : List ByteArray} {ver : ByteArray → Ver} (g : Good R) (h : Grew R ks ver Rn) (hn : (Rn.hist.map (·.1)).Nodup) (now : Int) (hnow : R.now ≤ now ∧ now ≤ 1000000000) (hks : ∀ k ∈ ks, keyB k = true) (hv : ∀ k ∈ ks, valB (ver k).value = true ∧ (ver k).state = now ∧ R.now < now) : Good { Rn with now := now } := by
  have hs := h.same
  have ew : Rn.works = R.works := by rw [hs]
  have eb : Rn.begun = R.begun := by rw [hs]
  have hall : ∀ p ∈ Rn.hist, Rising p.2.vers ∧ (∀ v ∈ p.2.vers, (0 ≤ v.state ∧ v.state ≤ now) ∧ valB v.value = true) ∧ keyB p.1 = true := by
    intro p hp
    obtain ⟨b1, b2, b3⟩ := base_vers g p.1
    have hne := h.tied.filled p hp
    rw [← (vers_of_mem hn hp).2, h.vers] at hne ⊢
    have hn0 := g.now.1
    cases hm : memB ks p.1 with
    | false =>
      rw [hm] at hne
      simp only [Bool.false_eq_true, if_false] at hne ⊢
      exact ⟨b1, fun v hv' => ⟨⟨(b2 v hv').1.1, Int.le_trans (b2 v hv').1.2 hnow.1⟩, (b2 v hv').2⟩, b3 hne⟩
    | true =>
      have hk := (memB_iff _ _).1 hm
      obtain ⟨v1, v2, v3⟩ := hv _ hk
      simp only [if_true]
      refine ⟨?_, fun v hv' => ?_, hks _ hk⟩
      · unfold Rising
        rw [List.pairwise_append]
        refine ⟨b1, List.pairwise_singleton _ _, fun a ha b hb => ?_⟩
        have hb' : b = ver p.1 := by simpa using hb
        have := (b2 a ha).1.2
        rw [hb', v2]
        omega
      · rcases List.mem_append.1 hv' with h1 | h1
        · exact ⟨⟨(b2 v h1).1.1, Int.le_trans (b2 v h1).1.2 hnow.1⟩, (b2 v h1).2⟩
        · have e : v = ver p.1 := by simpa using h1
          rw [e, v2]
          exact ⟨⟨by omega, Int.le_refl _⟩, v1⟩
  refine ⟨⟨Int.le_trans g.now.1 hnow.1, hnow.2⟩, ?_, ?_, ?_, ?_, ?_, ?_, fun p hp => (hall p hp).1, fun p hp v hv' => ((hall p hp).2.1 v hv').1, h.tied.filled, fun p hp => (hall p hp).2.2, fun p hp v hv' => ((hall p hp).2.1 v hv').2, ?_, ?_⟩
  · show 0 ≤ Rn.begun ∧ _
    rw [eb]; exact g.begun
  · show Rn.works.length ≤ 8
    rw [ew]; exact g.works8
  · show ∀ p ∈ Rn.works, 1 ≤ p.1 ∧ p.1 ≤ Rn.begun
    rw [ew, eb]; exact g.numbers
  · show ∀ p ∈ Rn.works, 0 ≤ p.2.began ∧ p.2.began ≤ now
    rw [ew]; exact fun p hp => ⟨(g.began p hp).1, Int.le_trans (g.began p hp).2 hnow.1⟩
  · show ∀ p ∈ Rn.works, _
    rw [ew]; exact g.writes30
  · show ∀ p ∈ Rn.works, _
    rw [ew]; exact g.wkeys
  · exact h.tied.rises.imp (fun {a b} hab => (ltK_iff a b).1 hab)
  · intro k
    show k ∈ Rn.keys ↔ ∃ x, look Rn.hist k = some x
    rw [← memB_iff, h.tied.keys]
    exact Option.isSome_iff_exists

theorem Good.entered {R : Rep} (g : Good R) (hl : R.works.length < 8) (hb : R.begun < 1000000000000000) (b m : Nat) (wm : Option Nat) : Good { R with begun := R.begun + 1, wm, works := R.works ++ [(R.begun + 1, ⟨b, m, R.now, []⟩)] } := by
  have hm : ∀ p ∈ R.works ++ [(R.begun + 1, (⟨b, m, R.now, []⟩ : WkR))], p ∈ R.works ∨ p = (R.begun + 1, ⟨b, m, R.now, []⟩) := fun p hp => by simpa using hp
  have hg := g.begun
  have hn := g.now
  refine ⟨g.now, ⟨?_, ?_⟩, ?_, ?_, ?_, ?_, ?_, g.rising, g.states, g.filled, g.hkeys, g.hvals, g.sorted, g.keys⟩
  · show 0 ≤ R.begun + 1
    omega
  · show R.begun + 1 ≤ _
    omega
  · show (R.works ++ [_]).length ≤ 8
    simp; omega
  · intro p hp
    show 1 ≤ p.1 ∧ p.1 ≤ R.begun + 1
    rcases hm p hp with h | h
    · have := g.numbers p h; omega
    · rw [h]; simp; omega
  · intro p hp
    rcases hm p hp with h | h
    · exact g.began p h
    · rw [h]; exact ⟨hn.1, Int.le_refl _⟩
  · intro p hp
    rcases hm p hp with h | h
    · exact g.writes30 p h
    · rw [h]; simp
  · intro p hp
    rcases hm p hp with h | h
    · exact g.wkeys p h
    · rw [h]; intro q hq; cases hq

theorem Good.written {R : Rep} {n : Int} {x : WkR} {key val : ByteArray} {gone : Bool} (g : Good R) (hn : look R.works n = some x) (hw : (R.works.map (·.1)).Nodup) (hx : (x.writes.map (·.1)).Nodup) (hkb : keyB key = true) (hvb : valB val = true) (hfit : (look x.writes key).isSome = true ∨ x.writes.length < 30) :
    Good { R with works := put R.works n { x with writes := put x.writes key ⟨0, val, gone⟩ } } := by
  have hxm := look_mem hn
  have hm : ∀ p ∈ put R.works n { x with writes := put x.writes key ⟨0, val, gone⟩ }, p ∈ R.works ∨ p = (n, { x with writes := put x.writes key ⟨0, val, gone⟩ }) := fun p hp => by
    rcases mem_put hw hp with h | ⟨h, _⟩
    · exact .inr h
    · exact .inl h
  refine ⟨g.now, g.begun, ?_, ?_, ?_, ?_, ?_, g.rising, g.states, g.filled, g.hkeys, g.hvals, g.sorted, g.keys⟩
  · show (put R.works n _).length ≤ 8
    rw [length_put, hn]
    exact g.works8
  · intro p hp
    rcases hm p hp with h | h
    · exact g.numbers p h
    · rw [h]
      have := g.numbers (n, x) hxm
      exact this
  · intro p hp
    rcases hm p hp with h | h
    · exact g.began p h
    · rw [h]
      have := g.began (n, x) hxm
      exact this
  · intro p hp
    rcases hm p hp with h | h
    · exact g.writes30 p h
    · rw [h]
      have h30 := g.writes30 _ hxm
      show (put x.writes key _).length ≤ 30
      rw [length_put]
      simp only at h30
      split
      · exact h30
      · rename_i hs
        rcases hfit with h1 | h1
        · exact absurd h1 hs
        · omega
  · intro p hp
    rcases hm p hp with h | h
    · exact g.wkeys p h
    · rw [h]
      intro q hq
      rcases mem_put hx hq with h1 | ⟨h1, _⟩
      · rw [h1]; exact ⟨hkb, hvb, rfl⟩
      · exact g.wkeys _ hxm q h1

end Go.Proofs.YtpagenipflmlfaaGreatDoor
