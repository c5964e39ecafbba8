import Derived.Test.YtfcocbcihhdbkaaM3
import Derived.RangeFuncWrites
import Derived.Stop.RegionWithIn

/- Commit of a work that has written nothing; its deferred step behind a clash. -/
namespace Go.Proofs.Ytfcocbcihhdbkaa
open Go.RowKit Go.Shelf

set_option maxRecDepth 100000 in
set_option maxHeartbeats 400000 in
/-- the deferred step, whatever settle does -/
theorem commit1_any (cb eb : Nat) (w : World) (Q : World → Prop) (h : Calls Try.prog 22 #[.pointer (some ⟨cb, 0, none⟩), .nilIface, .pointer (some ⟨eb, 0, none⟩)] w fun e w' => e = .returned (.tuple #[]) ∧ Q w') :
    CallsD Try.prog 29 #[.pointer (some ⟨cb, 0, none⟩), .pointer (some ⟨eb, 0, none⟩)] .returning w fun e u' w' => e = .returned (.tuple #[]) ∧ u' = .returning ∧ Q w' := by
  refine callsD_of_wpS Try.func29 rfl fun c₀ cs hu => ?_
  apply wpS_region
  simp [wpOpsS, go_sem, recoverD, hu, Try.ntmps29]
  refine h.mono ?_
  rintro e w1 ⟨rfl, hk⟩
  cases c₀
  simp_all [bodyPostS, results, Try.results29]

set_option maxRecDepth 100000 in
set_option maxHeartbeats 600000 in
theorem commit_empty (R : Rep) (n : Int) (x : WkR) (w : World) (h : StoreAt w R) (hn : look R.works n = some x) (hwr : x.writes = []) :
    Calls Try.prog 13 #[.pointer (some ⟨R.sb, 0, none⟩), .int .i64 n] w fun e w' => e = .returned (.tuple #[.int .i64 x.began, .int .i64 0]) ∧ StoreAt w' { R with works := del R.works n } ∧ Keeps (· ∈ R.fp) w w' := by
  obtain ⟨b0, hwm⟩ := wm_some h hn
  have hmf : ∀ (fn : Fn) (first cap : Array Value) (w : World), (Instr.makeFunc fn first cap).run Try.prog w = .ok (.func fn first cap) w := fun _ _ _ _ => rfl
  have hW := h.kept (((Keeps.refl (fun _ => False) w).al (.cells #[.int .i64 0] 28)).al (.cells #[.slice none 0 0] 56)) (fun _ _ h => h)
  have hf := find_any R n _ hW
  rw [hn] at hf
  simp only [Option.map_some, Option.getD_some, workPtr] at hf
  have hM : MapAt (Value.int .i64) ((w.alloc (.cells #[.int .i64 0] 28)).alloc (.cells #[.slice none 0 0] 56)) b0 (R.works.map fun p => (p.1, workPtr p.2)) := by have := hW.works.worksMap; rw [hwm] at this; exact this
  have c3 : w.cell? ⟨R.sb, 3, none⟩ = some (.map (some b0)) := (h.cell 3).trans (by rw [← hwm]; rfl)
  have hlt := h.lt
  have hbf : b0 ∈ R.fp := by simp [Rep.fp, Rep.fpWorks, hwm]
  have hbl := fp_lt h _ hbf
  have hrm := remove_work (w.heap.size + 1) [] [w.heap.size + 1] b0 n _ (some ⟨x.blk, 0, none⟩) _ (chg_new w _) hM (by rw [look_map, hn]; rfl) (by simp; omega) (by simp)
  have hxm : (n, x) ∈ R.works := look_mem hn
  obtain ⟨d0, d1, dM⟩ := h.works.work hxm
  obtain ⟨-, -, dMW⟩ := hW.works.work hxm
  rw [hwr] at dMW
  have HDM : Hid (MapAt Value.string ((w.alloc (.cells #[.int .i64 0] 28)).alloc (.cells #[.slice none 0 0] 56)) x.mb []) := dMW
  have hxl : x.blk < w.heap.size := World.block_lt_of_cell? _ _ d0
  have hxb : x.blk ≠ b0 := by
    have hnd := h.nodup
    simp only [Rep.fp, Rep.fpWorks, hwm, Option.toList_some, List.cons_append, List.nil_append, List.nodup_cons, List.mem_append, not_or] at hnd
    intro e
    refine hnd.2.1.1.2 (List.mem_flatMap.2 ⟨(n, x), hxm, by simp [e]⟩)
  have HXB : Hid (x.blk ≠ b0) := hxb
  have HST : Hid (StoreAt w R) := h
  have HWM : Hid (R.wm = some b0) := hwm
  clear hW hM hn h hwm dM dMW hxb hxm
  go_enter_defers Try.func13, Try.ntmps13
  go_wp2_with (first
    | (go_at_call 30; go_must (refine hf.mono ?_; rintro e w1 ⟨rfl, rfl⟩))
    | (at_len; go_must (refine wpList_len_at _ rfl _ 74 rfl 9 79 Try.underlying74 x.mb rfl _ HDM.out ?_; simp only [List.length_nil]))
    | (go_at_call 31; go_must (refine hrm.mono ?_; rintro e w1 ⟨rfl, fs1, C1, hf1, hC1, hk1, hC1', hm1⟩; have hE0 : w1.heap[w.heap.size]? = some (.cells #[.int .i64 0] 28 (0, 0)) := ((hk1.block w.heap.size (by simp; omega) (by rintro (hc | hc); (simp at hc); omega)).trans (Below.heap_alloc _ _ _ (by simp))).trans (heap_new w _); have y0 : w1.cell? ⟨w.heap.size, 0, none⟩ = some (.int .i64 0) := cell_of_heap hE0 0; have y1 : w1.frozen? ⟨w.heap.size, 0, none⟩ = false := frozen_of_heap hE0 0; have HE0 : Hid (w1.heap[w.heap.size]? = some (.cells #[.int .i64 0] 28 (0, 0))) := hE0; clear hE0; have z0 : w1.cell? ⟨x.blk, 0, none⟩ = some (.int .i64 x.began) := hk1.cell (p := ⟨x.blk, 0, none⟩) ((((Keeps.refl (fun _ => False) w).al _).al _).cell (p := ⟨x.blk, 0, none⟩) d0 (fun h => h)) (by rintro (hc | hc); ((simp at hc); omega); exact HXB.out hc))))
  refine leaves_cons (f := 29) (args := #[.pointer (some ⟨w.heap.size + 1, 0, none⟩), .pointer (some ⟨w.heap.size, 0, none⟩)]) (by simp) (by simp [go_sem]) ?_
  have hE1 := heap_setCell_same (i := 0) HE0.out (.int .i64 0)
  refine (commit1_ok (w.heap.size + 1) w.heap.size _ ?_).mono ?_
  · exact cell_of_heap hE1 0
  rintro e u' w'' ⟨rfl, rfl, rfl⟩
  have hpost : StoreAt (w1.setCell ⟨w.heap.size, 0, none⟩ (.int .i64 0)) { R with works := del R.works n } ∧ Keeps (· ∈ R.fp) w (w1.setCell ⟨w.heap.size, 0, none⟩ (.int .i64 0)) := by
    have s1 := (HST.out.kept (((Keeps.refl (fun _ => False) w).al _).al _) (fun _ _ h => h)).removed HWM.out (fun k hk hf => by have := fp_lt HST.out k hf; simp at hk; omega) hk1 hm1
    refine ⟨s1.kept (Keeps.setCell _ _ _) (fun k hk e => ?_), ?_⟩
    · have e' : k = w.heap.size := e
      have := fp_lt HST.out k (fp_del.subset hk)
      omega
    · refine ((((Keeps.refl (· ∈ R.fp) w).al _).al _).trans hk1 (fun k hk h => ?_)).st (.inl (Nat.le_refl _)) _
      rcases h with h | rfl
      · simp at h; omega
      · exact hbf
  have hb := cell_of_heap hE1 0
  generalize w1.setCell ⟨w.heap.size, 0, none⟩ (.int .i64 0) = W3 at hpost hb
  simp at hb
  simp [Leaves, settle, results, Try.results13, go_sem, hb]
  exact hpost

end Go.Proofs.Ytfcocbcihhdbkaa

/- Commit of a work that has written. -/
namespace Go.Proofs.Ytfcocbcihhdbkaa
open Go.RowKit Go.Shelf

/-- What Commit leaves: a clash, and all as it was but for the work; or the next state. -/
def CommitPost (R : Rep) (n : Int) (x : WkR) (w : World) (e : Ending) (w' : World) : Prop :=
  ∃ ks, Rises ks ∧ ks.Perm (x.writes.map (·.1)) ∧
    (((∃ k ∈ ks, x.began < lastOf (versOf R.hist k)) ∧ e = .returned (.tuple #[.int .i64 0, .int .i64 4]) ∧ ∃ R0, StoreAt w' R0 ∧ Grew { R with works := del R.works n } [] (verOf x.writes (R.now + 1)) R0 ∧ Keeps (· ∈ R.fp) w w' ∧ (∀ k ∈ R0.fp, k ∈ R.fp ∨ w.heap.size ≤ k) ∧ R0.keys.length ≤ R.keys.length + 30) ∨
     ((∀ k ∈ ks, lastOf (versOf R.hist k) ≤ x.began) ∧ e = .returned (.tuple #[.int .i64 (R.now + 1), .int .i64 0]) ∧ ∃ Rn, StoreAt w' { Rn with now := R.now + 1, works := del R.works n } ∧ Grew R ks (verOf x.writes (R.now + 1)) Rn ∧ Keeps (· ∈ R.fp) w w' ∧ (∀ k ∈ Rn.fp, k ∈ R.fp ∨ w.heap.size ≤ k)))

/-- settle behind a clash -/
theorem settle_back (Rj : Rep) (ks : List ByteArray) (cb eb : Nat) (kbs C : List Nat) (n : Int) (hn : 1 ≤ n ∧ n ≤ 9) (w : World) (hS : StoreAt w Rj) (ht : Tied Rj) (hlen : kbs.length = ks.length) (hl30 : ks.length ≤ 30)
    (hc : Chg w cb (kbs.map clo) C) (hCf : ∀ k ∈ C, k ∉ Rj.fp)
    (hboxes : ∀ i (h : i < kbs.length), w.heap[kbs[i]]? = some (.cells #[.pointer (some ⟨Rj.sb, 0, none⟩)] 23 (0, 0)) ∧ w.heap[kbs[i] + 1]? = some (.cells #[.string (ks.getD i ByteArray.empty)] 9 (0, 0)))
    (hap : ∀ k, (k ∈ kbs ∨ ∃ b ∈ kbs, k = b + 1) → k ∉ Rj.fp) (he : w.cell? ⟨eb, 0, none⟩ = some (.int .i64 n)) (hkl : Rj.keys.length < 1000000000000) (hvl : ∀ x, (versOf Rj.hist x).length < 1000000000000) :
    Calls Try.prog 22 #[.pointer (some ⟨cb, 0, none⟩), .nilIface, .pointer (some ⟨eb, 0, none⟩)] w fun e w' => e = .returned (.tuple #[]) ∧ BackAt Rj w ks.reverse w' := by
  obtain ⟨v, hb, hr, hne, rfl⟩ := hc
  rcases hr.2 with ⟨rfl, h0⟩ | ⟨g, cap, cur, rfl, hg, hnc, hcm, hcs, htk⟩
  · have hk0 : ks = [] := List.eq_nil_of_length_eq_zero (by simp at h0; simp [← hlen, h0])
    subst hk0
    refine (settle_none cb eb n hn w (cell_of_heap hb 0) he).mono ?_
    rintro e w' ⟨rfl, hk⟩
    have hB0 : BackAt Rj w [] w := ⟨Rj, hS, rfl, ht, fun k => by simp [cntK, cutN_zero], fun _ h => h, Keeps.refl _ _, Nat.le_refl _⟩
    exact ⟨rfl, hB0.kept hS hk (fun _ h => h.elim)⟩
  · have e1 : (kbs.map clo).length = kbs.length := by simp
    rw [e1] at hb
    refine settle_steps Rj ks cb eb g cap kbs n hn w hS ht hlen hl30 (cell_of_heap hb 0) (fun i hi => ?_) (hCf g (by simp [Value.ownBlock])) (Array.getElem?_eq_some_iff.1 hg).1 hboxes hap he hkl hvl
    have h1 := hr.cellAt i (by simpa using hi)
    rw [h1]
    simp [hi]

theorem vers_small2 {R : Rep} (g : Good R) (key : ByteArray) : (versOf R.hist key).length < 100000000000 := by
  unfold versOf
  cases hl : look R.hist key with
  | none => simp
  | some y =>
    have hm := look_mem hl
    have h2 := rising_length y.vers 0 R.now (g.rising _ hm) (g.states _ hm)
    have h3 := g.now
    simp only [Option.map_some, Option.getD_some]
    omega

/-- The deferred settle of a Commit that clashes. -/
theorem clash_settle {w w1 w2 : World} {R Rj : Rep} {n : Int} {b0 : Nat} {v : Value} {ks : List ByteArray} {ver : ByteArray → Ver} {j : Nat} {kbs C : List Nat} (h : StoreAt w R) (hwm : R.wm = some b0) (g : Good R) (hris : Rises ks) (hj : j < ks.length) (h30 : ks.length ≤ 30) (hkl : R.keys.length < 900000000000)
    (hB : BecomeAt ((w.alloc (.cells #[.int .i64 0] 28)).alloc (.cells #[.slice none 0 0] 56)) R (w.heap.size + 1) [] [w.heap.size + 1] v ks ver j w1 Rj kbs C)
    (hm2 : MapAt (Value.int .i64) w2 b0 (del (R.works.map fun p => (p.1, workPtr p.2)) n)) (hk2 : Keeps (· = b0) w1 w2) (hE : w2.heap[w.heap.size]? = some (.cells #[.int .i64 0] 28 (0, 0))) :
    Calls Try.prog 22 #[.pointer (some ⟨w.heap.size + 1, 0, none⟩), .nilIface, .pointer (some ⟨w.heap.size, 0, none⟩)] (w2.setCell ⟨w.heap.size, 0, none⟩ (.int .i64 4)) fun e w' => e = .returned (.tuple #[]) ∧
      ((∃ R0, StoreAt w' R0 ∧ Grew { R with works := del R.works n } [] ver R0 ∧ (∀ k ∈ R0.fp, k ∈ R.fp ∨ w.heap.size + 2 ≤ k) ∧ R0.keys.length ≤ R.keys.length + 30) ∧ Keeps (fun k => (k ∈ R.fp ∨ w.heap.size + 2 ≤ k) ∧ k ≠ w.heap.size) (w2.setCell ⟨w.heap.size, 0, none⟩ (.int .i64 4)) w') := by
  have hsame := hB.grew.same
  have esb : Rj.sb = R.sb := by rw [hsame]
  have ewm : Rj.wm = some b0 := by rw [hsame]; exact hwm
  have ewk : Rj.works = R.works := by rw [hsame]
  have hfl := fp_lt h
  have hbR : b0 ∈ R.fp := by simp [Rep.fp, Rep.fpWorks, hwm]
  have hbl := hfl _ hbR
  have hbj : b0 ∈ Rj.fp := by simp [Rep.fp, Rep.fpWorks, ewm]
  have hz1 : w.heap.size + 2 ≤ w1.heap.size := by have := hB.keeps.size; simpa using this
  have hfE : ∀ k ∈ Rj.fp, k ∈ R.fp ∨ w.heap.size + 2 ≤ k := fun k hk => by
    rcases hB.fpE k hk with h1 | h1
    · exact .inl h1
    · simp at h1; exact .inr (by omega)
  have hcE : ∀ k ∈ C, k = w.heap.size + 1 ∨ w.heap.size + 2 ≤ k := fun k hk => by
    rcases hB.cE k hk with h1 | h1
    · simp at h1; exact .inl h1
    · simp at h1; exact .inr (by omega)
  have hsub : (Rep.fp { Rj with works := del R.works n }).Sublist Rj.fp := by
    have := fp_del (R := Rj) (n := n)
    rw [ewk] at this
    exact this
  have heb : ∀ k ∈ Rj.fp, k ≠ w.heap.size := fun k hk e => by
    rcases hfE k hk with h1 | h1
    · have := hfl k h1; omega
    · omega
  have s2 : StoreAt w2 { Rj with works := del Rj.works n } := hB.store.removed (C := []) ewm (by simp) (hk2.mono (fun _ _ h => .inr h)) (by rw [ewk]; exact hm2)
  rw [ewk] at s2
  have hks : Keeps (· = w.heap.size) w2 (w2.setCell ⟨w.heap.size, 0, none⟩ (.int .i64 4)) := Keeps.setCell w2 ⟨w.heap.size, 0, none⟩ (.int .i64 4)
  have s3 : StoreAt (w2.setCell ⟨w.heap.size, 0, none⟩ (.int .i64 4)) { Rj with works := del R.works n } := s2.kept hks (fun k hk e => heb k (hsub.subset hk) e)
  have hk13 : Keeps (fun k => k = b0 ∨ k = w.heap.size) w1 (w2.setCell ⟨w.heap.size, 0, none⟩ (.int .i64 4)) := (hk2.mono (fun _ _ h => .inl h)).tr hks (fun _ h => .inr h)
  have hE1 : w1.heap[w.heap.size]? = some (.cells #[.int .i64 0] 28 (0, 0)) := by
    rw [← hk2.block w.heap.size (by omega) (fun e => by have e' : w.heap.size = b0 := e; omega)]
    exact hE
  have t3 : Tied { Rj with works := del R.works n } := ⟨hB.grew.tied.rises, hB.grew.tied.keys, hB.grew.tied.filled⟩
  have hchg : Chg (w2.setCell ⟨w.heap.size, 0, none⟩ (.int .i64 4)) (w.heap.size + 1) (kbs.map clo) C := by
    have := hB.chg.kept hk13 (fun k hk e => by
      rcases e with rfl | rfl
      · exact hB.fpC _ hk hbj
      · rcases hcE _ hk with h1 | h1 <;> omega)
    simpa using this
  have hlen : kbs.length = (ks.take j).length := by rw [hB.len, List.length_take]; omega
  have hkbx : ∀ i (hi : i < kbs.length), (kbs[i] ≠ b0 ∧ kbs[i] ≠ w.heap.size) ∧ kbs[i] + 1 ≠ b0 ∧ kbs[i] + 1 ≠ w.heap.size := fun i hi => by
    obtain ⟨h1, h2⟩ := hB.boxes i hi
    refine ⟨⟨fun e => (hB.apart _ (.inr (.inl (List.getElem_mem hi)))).1 (e ▸ hbj), fun e => ?_⟩, fun e => (hB.apart _ (.inr (.inr ⟨_, List.getElem_mem hi, rfl⟩))).1 (e ▸ hbj), fun e => ?_⟩
    · rw [e, hE1] at h1
      simp at h1
    · rw [e, hE1] at h2
      simp at h2
  have hss : ((w.alloc (.cells #[.int .i64 0] 28)).alloc (.cells #[.slice none 0 0] 56)).heap.size = w.heap.size + 2 := by simp
  have hgrew : Grew { R with works := del R.works n } (ks.take j) ver { Rj with works := del R.works n } := ⟨by rw [hsame], hB.grew.vers, t3⟩
  refine (settle_back { Rj with works := del R.works n } (ks.take j) (w.heap.size + 1) w.heap.size kbs C 4 (by omega) _ s3 t3 hlen (by rw [List.length_take]; omega) hchg (fun k hk hf => hB.fpC k hk (hsub.subset hf)) (fun i hi => ?_) (fun k hk hf => ?_) (cell_of_heap (heap_setCell_same (i := 0) hE (.int .i64 4)) 0) ?_ (fun y => ?_)).mono ?_
  · have hij : i < j := by have := hB.len; omega
    have e1 : (ks.take j).getD i ByteArray.empty = ks.getD i ByteArray.empty := by simp [hij]
    obtain ⟨b1, b2⟩ := hB.boxes i hi
    obtain ⟨⟨n1, n2⟩, n3, n4⟩ := hkbx i hi
    refine ⟨?_, ?_⟩
    · show _ = some (Obj.cells #[.pointer (some ⟨Rj.sb, 0, none⟩)] _ _)
      rw [esb, ← b1]
      exact hk13.block _ (Array.getElem?_eq_some_iff.1 b1).1 (by rintro (e | e); exact n1 e; exact n2 e)
    · rw [e1, ← b2]
      exact hk13.block _ (Array.getElem?_eq_some_iff.1 b2).1 (by rintro (e | e); exact n3 e; exact n4 e)
  · exact (hB.apart _ (.inr hk)).1 (hsub.subset hf)
  · show Rj.keys.length < _
    have := hB.klen
    omega
  · show (versOf Rj.hist y).length < _
    have h1 := vers_small2 g y
    rw [hB.grew.vers]
    split
    · simp; omega
    · omega
  · rintro e w' ⟨rfl, hBack⟩
    obtain ⟨R0, g1, g2, g3, g4, g5⟩ := hBack.all hgrew ((rises_nodup hris).sublist (List.take_sublist _ _))
    refine ⟨rfl, ⟨R0, g1, g2, fun k hk => hfE k (hsub.subset (g3 k hk)), ?_⟩, g4.mono (fun k _ hk => ⟨hfE k (hsub.subset hk), heb k (hsub.subset hk)⟩)⟩
    have h1 : R0.keys.length ≤ Rj.keys.length := g5
    have h2 := hB.klen
    omega

set_option maxRecDepth 100000 in
set_option maxHeartbeats 1000000 in
theorem commit_some (R : Rep) (n : Int) (x : WkR) (w : World) (h : StoreAt w R) (g : Good R) (t : Tied R) (hn : look R.works n = some x) (hwr : x.writes ≠ []) (hnow : R.now < 1000000000) (hkl : R.keys.length < 900000000000) :
    Calls Try.prog 13 #[.pointer (some ⟨R.sb, 0, none⟩), .int .i64 n] w (CommitPost R n x w) := by
  obtain ⟨b0, hwm⟩ := wm_some h hn
  have hmf : ∀ (fn : Fn) (first cap : Array Value) (w : World), (Instr.makeFunc fn first cap).run Try.prog w = .ok (.func fn first cap) w := fun _ _ _ _ => rfl
  have hk0 : Keeps (fun _ => False) w ((w.alloc (.cells #[.int .i64 0] 28)).alloc (.cells #[.slice none 0 0] 56)) := ((Keeps.refl (fun _ => False) w).al _).al _
  have hW := h.kept hk0 (fun _ _ h => h)
  have hf := find_any R n _ hW
  rw [hn] at hf
  simp only [Option.map_some, Option.getD_some, workPtr] at hf
  have c0 : w.cell? ⟨R.sb, 0, none⟩ = some (.int .i64 R.now) := h.cell 0
  have c3 : w.cell? ⟨R.sb, 3, none⟩ = some (.map (some b0)) := (h.cell 3).trans (by rw [← hwm]; rfl)
  have hlt := h.lt
  have hbf : b0 ∈ R.fp := by simp [Rep.fp, Rep.fpWorks, hwm]
  have hbl := fp_lt h _ hbf
  have hxm : (n, x) ∈ R.works := look_mem hn
  obtain ⟨d0, d1, dM⟩ := h.works.work hxm
  obtain ⟨-, -, dMW⟩ := hW.works.work hxm
  have h30 := g.writes30 _ hxm
  obtain ⟨m, hm⟩ : ∃ m, x.writes.length = m + 1 := ⟨x.writes.length - 1, by have := List.length_pos_iff.2 hwr; omega⟩
  have hm30 : m < 30 := by simp at h30; omega
  have hdl : (x.writes.map fun q => (q.1, q.2.val)).length = m + 1 := by rw [List.length_map, hm]
  have HDL : Hid ((x.writes.map fun q => (q.1, q.2.val)).length = m + 1) := hdl
  have HDM : Hid (MapAt Value.string ((w.alloc (.cells #[.int .i64 0] 28)).alloc (.cells #[.slice none 0 0] 56)) x.mb (x.writes.map fun q => (q.1, q.2.val))) := dMW
  have hxl : x.blk < w.heap.size := World.block_lt_of_cell? _ _ d0
  have hbc := become_any R n x (w.heap.size + 1) [w.heap.size + 1] _ hW g t hxm (chg_new w _) (fun k hk hf => by have := fp_lt h k hf; simp at hk; omega) hkl
  unfold workPtr at hbc
  have hn0 := g.now.1
  have HST : Hid (StoreAt w R) := h
  have HG : Hid (Good R) := g
  have HWM : Hid (R.wm = some b0) := hwm
  have HN : Hid (look R.works n = some x) := hn
  have HK0 : Hid (Keeps (fun _ => False) w ((w.alloc (.cells #[.int .i64 0] 28)).alloc (.cells #[.slice none 0 0] 56))) := hk0
  clear hW hn h g t hwm dM dMW hxm hdl hm h30 hwr hk0
  go_enter_defers Try.func13, Try.ntmps13
  go_wp2_with (first
    | (go_at_call 30; go_must (refine hf.mono ?_; rintro e w1 ⟨rfl, rfl⟩))
    | (at_len; go_must (refine wpList_len_at _ rfl _ 74 rfl 9 79 Try.underlying74 x.mb rfl _ HDM.out ?_; rw [HDL.out])))
  refine hbc.mono ?_
  rintro e w1 ⟨v, ks, hris, hperm, ⟨j, Rj, kbs, C, hj, hclash, rfl, hB⟩ | ⟨hlast, rfl, Rn, fs, C, hS, hG, hC, hfl, hk1, hCf, hfE, hCE⟩⟩
  · have hsame := hB.grew.same
    have esb : Rj.sb = R.sb := by rw [hsame]
    have ewm : Rj.wm = some b0 := by rw [hsame]; exact HWM.out
    have ewk : Rj.works = R.works := by rw [hsame]
    have hS := hB.store
    have hM1 : MapAt (Value.int .i64) w1 b0 (R.works.map fun p => (p.1, workPtr p.2)) := by
      have := hS.works.worksMap
      rw [ewm, ewk] at this
      exact this
    have c31 : w1.cell? ⟨R.sb, 3, none⟩ = some (.map (some b0)) := by
      have := hS.cell 3
      rw [esb] at this
      rw [this]
      simp [topCells, ewm]
    have hz1 : w.heap.size + 2 ≤ w1.heap.size := by have := hB.keeps.size; simpa using this
    have hE1 : w1.heap[w.heap.size]? = some (.cells #[.int .i64 0] 28 (0, 0)) := ((hB.keeps.block w.heap.size (by simp; omega) (by rintro (hc | hc); exact absurd (fp_lt HST.out _ hc) (by omega); (simp at hc))).trans (Below.heap_alloc _ _ _ (by simp))).trans (heap_new w _)
    have HE1 : Hid (w1.heap[w.heap.size]? = some (.cells #[.int .i64 0] 28 (0, 0))) := hE1
    have HB : Hid (BecomeAt ((w.alloc (.cells #[.int .i64 0] 28)).alloc (.cells #[.slice none 0 0] 56)) R (w.heap.size + 1) [] [w.heap.size + 1] v ks (verOf x.writes (R.now + 1)) j w1 Rj kbs C) := hB
    have HM1 : Hid (MapAt (Value.int .i64) w1 b0 (R.works.map fun p => (p.1, workPtr p.2))) := hM1
    have HR : Hid (Rises ks ∧ ks.Perm (x.writes.map (·.1)) ∧ ∃ k ∈ ks, x.began < lastOf (versOf R.hist k)) := ⟨hris, hperm, ks[j], List.getElem_mem hj, hclash⟩
    have hsl1 : R.sb < w1.heap.size := by omega
    have hel1 : w.heap.size < w1.heap.size := by omega
    clear hsame esb ewm ewk hM1 hE1 hS hris hperm hclash c0 c3 hB
    go_wp2_with (first
      | (at_delete; go_must (refine wpList_delete_at _ rfl _ _ 59 3 rfl 73 intKeyOk Try.underlying59 Try.underlying3 b0 rfl n rfl _ HM1.out ?_; intro w2 hm2 hk2 hz2; have hE0 : w2.heap[w.heap.size]? = some (.cells #[.int .i64 0] 28 (0, 0)) := (hk2.block w.heap.size (by omega) (fun e => by (have e' : w.heap.size = b0 := e); omega)).trans HE1.out; have y0 : w2.cell? ⟨w.heap.size, 0, none⟩ = some (.int .i64 0) := cell_of_heap hE0 0; have y1 : w2.frozen? ⟨w.heap.size, 0, none⟩ = false := frozen_of_heap hE0 0; have HE0 : Hid (w2.heap[w.heap.size]? = some (.cells #[.int .i64 0] 28 (0, 0))) := hE0; clear hE0)))
    refine leaves_cons (f := 29) (args := #[.pointer (some ⟨w.heap.size + 1, 0, none⟩), .pointer (some ⟨w.heap.size, 0, none⟩)]) (by simp) (by simp [go_sem]) ?_
    have hE1 := heap_setCell_same (i := 0) HE0.out (.int .i64 4)
    refine (commit1_any (w.heap.size + 1) w.heap.size _ _ (clash_settle HST.out HWM.out HG.out HR.out.1 hj (by have h1 := HR.out.2.1.length_eq; have h2 := HG.out.writes30 _ (look_mem HN.out); simp at h1 h2; omega) hkl HB.out hm2 hk2 HE0.out)).mono ?_
    rintro e u' w'' ⟨rfl, rfl, hK⟩
    have hb : w''.cell? ⟨w.heap.size, 0, none⟩ = some (.int .i64 4) := hK.2.cell (p := ⟨w.heap.size, 0, none⟩) (cell_of_heap hE1 0) (fun hf => by have := hf.2; simp at this)
    have hpost : CommitPost R n x w (.returned (.tuple #[.int .i64 0, .int .i64 4])) w'' := by
      obtain ⟨⟨R0, s0, g0, f0, l0⟩, hkK⟩ := hK
      refine ⟨ks, HR.out.1, HR.out.2.1, .inl ⟨HR.out.2.2, rfl, R0, s0, g0, ?_, fun k hk => ?_, l0⟩⟩
      · have h1 : Keeps (· ∈ R.fp) w w1 := (HK0.out.mono (fun _ _ h => h.elim)).trans HB.out.keeps (fun k hk h => by
          rcases h with h | h
          · exact h
          · simp at h; omega)
        have h2 := h1.tr hk2 (fun k h => by have h' : k = b0 := h; exact h' ▸ hbf)
        refine (h2.st (p := ⟨w.heap.size, 0, none⟩) (.inl (Nat.le_refl _)) (.int .i64 4)).trans hkK (fun k hk h => ?_)
        rcases h.1 with h1 | h1
        · exact h1
        · omega
      · rcases f0 k hk with h1 | h1
        · exact .inl h1
        · exact .inr (by omega)
    simp [Leaves, settle, results, Try.results13, go_sem, hb]
    exact hpost
  · have hsame := hG.same
    have esb : Rn.sb = R.sb := by rw [hsame]
    have ewm : Rn.wm = some b0 := by rw [hsame]; exact HWM.out
    have ewk : Rn.works = R.works := by rw [hsame]
    have hbn : b0 ∈ Rn.fp := by simp [Rep.fp, Rep.fpWorks, ewm]
    have hsn : R.sb ∈ Rn.fp := by rw [← esb]; simp [Rep.fp]
    have hM1 : MapAt (Value.int .i64) w1 b0 (R.works.map fun p => (p.1, workPtr p.2)) := by
      have := hS.works.worksMap
      rw [show ({ Rn with now := R.now + 1 } : Rep).wm = some b0 from ewm, show ({ Rn with now := R.now + 1 } : Rep).works = R.works from ewk] at this
      exact this
    have c31 : w1.cell? ⟨R.sb, 3, none⟩ = some (.map (some b0)) := by
      have := hS.cell 3
      rw [show ({ Rn with now := R.now + 1 } : Rep).sb = R.sb from esb] at this
      rw [this]
      simp [topCells, ewm]
    have c01 : w1.cell? ⟨R.sb, 0, none⟩ = some (.int .i64 (R.now + 1)) := by
      have := hS.cell 0
      rw [show ({ Rn with now := R.now + 1 } : Rep).sb = R.sb from esb] at this
      rw [this]
      simp [topCells]
    have hbC : b0 ∉ C := fun hf => hCf _ hf hbn
    have hsC : R.sb ∉ C := fun hf => hCf _ hf hsn
    have hsb0 : R.sb ≠ b0 := by
      have hnd := HST.out.nodup
      simp only [Rep.fp, Rep.fpWorks, HWM.out, Option.toList_some, List.cons_append, List.nil_append, List.nodup_cons, List.mem_cons, List.mem_append, not_or] at hnd
      exact hnd.1.1
    have hflen : fs.length < 1000000000000 := by
      have h1 := hperm.length_eq
      have h2 := HG.out.writes30 _ (look_mem HN.out)
      simp at h1 h2 hfl
      omega
    have hrm := remove_work (w.heap.size + 1) fs C b0 n _ (some ⟨x.blk, 0, none⟩) w1 hC hM1 (by rw [look_map, HN.out]; rfl) hbC hflen
    have hz1 : w.heap.size + 2 ≤ w1.heap.size := by have := hk1.size; simpa using this
    have heC : w.heap.size ∉ C := fun hf => by
      rcases hCE _ hf with h1 | h1
      · simp at h1
      · simp at h1; omega
    have hE1 : w1.heap[w.heap.size]? = some (.cells #[.int .i64 0] 28 (0, 0)) := ((hk1.block w.heap.size (by simp; omega) (by rintro (hc | hc); exact absurd (fp_lt HST.out _ hc) (by omega); (simp at hc))).trans (Below.heap_alloc _ _ _ (by simp))).trans (heap_new w _)
    have HE1 : Hid (w1.heap[w.heap.size]? = some (.cells #[.int .i64 0] 28 (0, 0)) ∧ w.heap.size ∉ C ∧ R.sb ∉ C ∧ R.sb ≠ b0) := ⟨hE1, heC, hsC, hsb0⟩
    have HS : Hid (StoreAt w1 { Rn with now := R.now + 1 }) := hS
    have HGR : Hid (Grew R ks (verOf x.writes (R.now + 1)) Rn) := hG
    have HR : Hid (Rises ks ∧ ks.Perm (x.writes.map (·.1)) ∧ ∀ k ∈ ks, lastOf (versOf R.hist k) ≤ x.began) := ⟨hris, hperm, hlast⟩
    have HK1 : Hid (Keeps (fun k => k ∈ R.fp ∨ k ∈ [w.heap.size + 1]) ((w.alloc (.cells #[.int .i64 0] 28)).alloc (.cells #[.slice none 0 0] 56)) w1) := hk1
    have HCF : Hid ((∀ k ∈ C, k ∉ Rn.fp) ∧ (∀ k ∈ C, k ∈ [w.heap.size + 1] ∨ ((w.alloc (.cells #[.int .i64 0] 28)).alloc (.cells #[.slice none 0 0] 56)).heap.size ≤ k)) := ⟨hCf, hCE⟩
    have HFE : Hid (∀ k ∈ Rn.fp, k ∈ R.fp ∨ ((w.alloc (.cells #[.int .i64 0] 28)).alloc (.cells #[.slice none 0 0] 56)).heap.size ≤ k) := hfE
    have HEE : Hid (Rn.sb = R.sb ∧ Rn.wm = some b0 ∧ Rn.works = R.works) := ⟨esb, ewm, ewk⟩
    have hsl1 : R.sb < w1.heap.size := by omega
    have hel1 : w.heap.size < w1.heap.size := by omega
    clear hsame esb ewm ewk hbn hsn hM1 hbC hsC hsb0 hflen heC hE1 hS hG hris hperm hlast hk1 hCf hCE hfE hC hfl c0 c3
    go_wp2_with (first
      | (go_at_call 31; go_must (refine hrm.mono ?_; rintro e w2 ⟨rfl, fs2, C2, hf2, hC2, hk2, hC2', hm2⟩; obtain ⟨q1, q2, q3, q4⟩ := HE1.out; have hE0 : w2.heap[w.heap.size]? = some (.cells #[.int .i64 0] 28 (0, 0)) := (hk2.block w.heap.size (by omega) (by rintro (hc | hc); exact q2 hc; omega)).trans q1; have y0 : w2.cell? ⟨w.heap.size, 0, none⟩ = some (.int .i64 0) := cell_of_heap hE0 0; have y1 : w2.frozen? ⟨w.heap.size, 0, none⟩ = false := frozen_of_heap hE0 0; have HE0 : Hid (w2.heap[w.heap.size]? = some (.cells #[.int .i64 0] 28 (0, 0))) := hE0; have z0 : w2.cell? ⟨R.sb, 0, none⟩ = some (.int .i64 (R.now + 1)) := hk2.cell (p := ⟨R.sb, 0, none⟩) c01 (by rintro (hc | hc); exact q3 hc; exact q4 hc); clear hE0 q1 q2 q3 q4)))
    refine leaves_cons (f := 29) (args := #[.pointer (some ⟨w.heap.size + 1, 0, none⟩), .pointer (some ⟨w.heap.size, 0, none⟩)]) (by simp) (by simp [go_sem]) ?_
    have hE1 := heap_setCell_same (i := 0) HE0.out (.int .i64 0)
    refine (commit1_ok (w.heap.size + 1) w.heap.size _ ?_).mono ?_
    · exact cell_of_heap hE1 0
    rintro e u' w'' ⟨rfl, rfl, rfl⟩
    have hpost : CommitPost R n x w (.returned (.tuple #[.int .i64 (R.now + 1), .int .i64 0])) (w2.setCell ⟨w.heap.size, 0, none⟩ (.int .i64 0)) := by
      obtain ⟨esb, ewm, ewk⟩ := HEE.out
      obtain ⟨hCf, hCE⟩ := HCF.out
      have hfE := HFE.out
      have s1 : StoreAt w2 { Rn with now := R.now + 1, works := del Rn.works n } := HS.out.removed (R := { Rn with now := R.now + 1 }) ewm (fun k hk hf => hCf k hk hf) hk2 (by rw [show ({ Rn with now := R.now + 1 } : Rep).works = R.works from ewk]; exact hm2)
      have hfp : ∀ k ∈ Rn.fp, k ∈ R.fp ∨ w.heap.size + 2 ≤ k := fun k hk => by
        rcases hfE k hk with h1 | h1
        · exact .inl h1
        · simp at h1; exact .inr (by omega)
      rw [ewk] at s1
      refine ⟨ks, HR.out.1, HR.out.2.1, .inr ⟨HR.out.2.2, rfl, Rn, s1.kept (Keeps.setCell _ _ _) (fun k hk e => ?_), HGR.out, ?_, fun k hk => ?_⟩⟩
      · have e' : k = w.heap.size := e
        have hk' : k ∈ Rn.fp := by
          have := (fp_del (R := { Rn with now := R.now + 1 }) (n := n)).subset (show k ∈ Rep.fp { Rn with now := R.now + 1, works := del Rn.works n } by rw [ewk]; exact hk)
          exact this
        rcases hfp k hk' with h1 | h1
        · have := fp_lt HST.out k h1; omega
        · omega
      · have h1 : Keeps (· ∈ R.fp) w w1 := (HK0.out.mono (fun _ _ h => h.elim)).trans HK1.out (fun k hk h => by
          rcases h with h | h
          · exact h
          · simp at h; omega)
        refine (h1.trans hk2 (fun k hk h => ?_)).st (.inl (Nat.le_refl _)) _
        rcases h with h | rfl
        · rcases hCE k h with h1 | h1
          · simp at h1; omega
          · simp at h1; omega
        · exact hbf
      · rcases hfp k hk with h1 | h1
        · exact .inl h1
        · exact .inr (by omega)
    have hb := cell_of_heap hE1 0
    generalize w2.setCell ⟨w.heap.size, 0, none⟩ (.int .i64 0) = W3 at hpost hb
    simp at hb
    simp [Leaves, settle, results, Try.results13, go_sem, hb]
    exact hpost

end Go.Proofs.Ytfcocbcihhdbkaa

/- New: a store at the state 0. -/
namespace Go.Proofs.Ytfcocbcihhdbkaa
open Go.RowKit

/-- a store that nothing has happened to -/
def Rep.zero (b : Nat) : Rep := ⟨b, 0, 0, 0, none, [], none, [], 0, none, [], .slice none 0 0, [], none, []⟩

set_option maxRecDepth 100000 in
set_option maxHeartbeats 400000 in
theorem new_any (w : World) :
    Calls Try.prog 20 #[] w fun e w' => e = .returned (.pointer (some ⟨w.heap.size, 0, none⟩)) ∧ StoreAt w' (Rep.zero w.heap.size) ∧ Keeps (fun _ => False) w w' := by
  go_enter Try.func20, Try.ntmps20
  go_wp2
  go_ret
  refine ⟨rfl, ⟨heap_new w _, ⟨rfl, fun p hp => (by cases hp), rfl, rfl⟩, ⟨Row.nil _ _ _, rfl, fun p hp => (by cases hp)⟩, by simp [Rep.fp, Rep.fpWorks, Rep.fpPast, Rep.zero, pcOf, Value.ownBlock]⟩, Keeps.alloc _ _ _⟩

theorem tied_zero (b : Nat) : Tied (Rep.zero b) := ⟨List.Pairwise.nil, fun k => rfl, fun p hp => by cases hp⟩

end Go.Proofs.Ytfcocbcihhdbkaa

/- Look: what it counts. -/
namespace Go.Proofs.Ytfcocbcihhdbkaa
open Go.RowKit

theorem IterAt.left_eq {α : Type} {mk : α → Value} {w : World} {r b : Nat} {l left : List (α × Value)} (h : IterAt mk w r b l left) : w.rangeLeft b r = left.length := by
  obtain ⟨es, clock, since, seen, hb, _, _, hr, _, _, he⟩ := h
  have := congrArg List.length he
  simp at this
  unfold World.rangeLeft
  rw [hb, hr]
  exact this

theorem del_less {α β : Type} [DecidableEq α] : ∀ {l : List (α × β)} {k : α} {v : β}, (k, v) ∈ l → (del l k).length < l.length
  | [], _, _, h => by cases h
  | (a, x) :: r, k, v, h => by
    unfold del
    by_cases e : a = k
    · rw [if_pos e]
      simp
    · rw [if_neg e]
      rcases List.mem_cons.1 h with h1 | h1
      · cases h1
        exact absurd rfl e
      · simp only [List.length_cons]
        have := del_less h1
        omega

set_option maxRecDepth 100000 in
set_option maxHeartbeats 400000 in
/-- Count, of a map -/
theorem count_map (R : Rep) (w : World) (h : StoreAt w R) (b : Nat) (hvm : R.vm = some b) :
    Calls Try.prog 28 #[.pointer (some ⟨R.sb, 7, none⟩)] w fun e w' => ∃ c : Int, e = .returned (.int .i64 c) ∧ Keeps (fun _ => False) w w' := by
  have hM : MapAt Value.string w b (R.hist.map fun p => (p.1, p.2.sl)) := by have := h.past.histMap; rw [hvm] at this; exact this
  have c6 : w.cell? ⟨R.sb, 8, none⟩ = some (.map (some b)) := (h.cell 8).trans (by rw [← hvm]; rfl)
  have hlt := h.lt
  have HM : Hid (MapAt Value.string w b (R.hist.map fun p => (p.1, p.2.sl))) := hM
  have HF : Hid (∀ q ∈ R.hist.map fun p => (p.1, p.2.sl), ∃ a m cap, q.2 = .slice a m cap) := fun q hq => by
    obtain ⟨p, hp, rfl⟩ := List.mem_map.1 hq
    obtain ⟨a, cap, e, _⟩ := (h.past.histEach p hp).form
    exact ⟨a, _, cap, e⟩
  clear h hvm hM
  go_enter Try.func28, Try.ntmps28
  go_wp2_with (at_range; go_must (refine wpList_range_at _ rfl _ 62 rfl 9 99 Try.underlying62 b rfl _ HM.out ?_; intro w1 hit hk1 hz1))
  go_frame
  go_loopw [3] (fun i wr => ∃ (c : Int) (left : List (ByteArray × Value)), i = .int .i64 c ∧ IterAt Value.string wr w.heap.size b (R.hist.map fun p => (p.1, p.2.sl)) left ∧ Keeps (fun _ => False) w wr ∧ (∀ q ∈ left, q ∈ R.hist.map fun p => (p.1, p.2.sl))) (fun _ wr => wr.rangeLeft b w.heap.size)
  case atStart => exact ⟨0, _, rfl, hit, hk1, fun q hq => hq⟩
  case round =>
    obtain ⟨c, left, rfl, hit', hkr, hsub⟩ := hrel
    clear hit hk1 hz1
    go_wp2_with (at_next; go_must (refine wpList_next_at _ rfl _ rfl strKeyOk b w.heap.size rfl _ _ hit' ?_ ?_))
    · intro _
      go_wp2
      go_ret
      exact ⟨c, rfl, hkr⟩
    · intro k v w2 hkv hit2 hk2 hz2 hen
      obtain ⟨a, m, cap, hv⟩ := HF.out _ (hsub _ hkv)
      simp only at hv
      subst hv
      have HI2 : Hid (IterAt Value.string w2 w.heap.size b (R.hist.map fun p => (p.1, p.2.sl)) (del left k)) := hit2
      have HI1 : Hid (IterAt Value.string wr w.heap.size b (R.hist.map fun p => (p.1, p.2.sl)) left) := hit'
      have HKV : Hid ((k, Value.slice a m cap) ∈ left) := hkv
      have HSUB : Hid (∀ q ∈ left, q ∈ R.hist.map fun p => (p.1, p.2.sl)) := hsub
      clear hit2 hit' hkv hsub
      go_wp2
      refine ⟨⟨_, del left k, rfl, HI2.out, hkr.trans hk2 (fun i hi e => ?_), fun q hq => HSUB.out q ((del_sublist _ _).subset hq)⟩, ?_⟩
      · have e' : i = w.heap.size := e
        omega
      · rw [HI2.out.left_eq, HI1.out.left_eq]
        exact del_less HKV.out

end Go.Proofs.Ytfcocbcihhdbkaa

/- Look: what it counts, of maps that are nil. -/
namespace Go.Proofs.Ytfcocbcihhdbkaa
open Go.RowKit

theorem range_nil {P : Program} {t kt e : TypeId} (ht : P.underlying t = some (.map kt e)) (w : World) : (Instr.range t (.map none)).run P w = .ok (.pointer (some ⟨w.heap.size, 0, none⟩)) (w.alloc (.mapIter none 0 #[] 0)) := by
  simp [Instr.range, run_underlying ht]

theorem next_nil {P : Program} {r : Nat} (ty : TypeId) (w : World) (h : w.heap[r]? = some (.mapIter none 0 #[] 0)) : (Instr.next (.pointer (some ⟨r, 0, none⟩)) false ty).run P w = .ok (.tuple #[.bool false]) w := by
  have hg : (getObj r).run P w = .ok (.mapIter none 0 #[] 0) w := by simp [getObj, Sem.run, h]
  simp [Instr.next, hg]

theorem len_nil {P : Program} {t kt e i : TypeId} (ht : P.underlying t = some (.map kt e)) (w : World) : (Builtin.len_ #[t] i #[.map none]).run P w = .ok (.int .i64 0) w := by
  simp [Builtin.len_, run_underlying ht, goInt]

set_option maxRecDepth 100000 in
set_option maxHeartbeats 400000 in
theorem allPins_nil (sb : Nat) (w : World) (hc : w.cell? ⟨sb, 4, none⟩ = some (.map none)) :
    Calls Try.prog 27 #[.pointer (some ⟨sb, 0, none⟩)] w fun e w' => e = .returned (.int .i64 0) ∧ Keeps (fun _ => False) w w' := by
  have hrg := range_nil (P := Try.prog) (t := 60) Try.underlying60 w
  have hnx := next_nil (P := Try.prog) (r := w.heap.size) 0 (w.alloc (.mapIter none 0 #[] 0)) (heap_new w _)
  go_enter Try.func27, Try.ntmps27
  go_wp2
  go_loopw [3] (fun i wr => i = .int .i64 0 ∧ wr = w.alloc (.mapIter none 0 #[] 0)) (fun _ _ => 0)
  case atStart => exact ⟨rfl, rfl⟩
  case round =>
    obtain ⟨rfl, rfl⟩ := hrel
    go_wp2
    go_ret
    exact ⟨rfl, Keeps.alloc _ _ _⟩

set_option maxRecDepth 100000 in
set_option maxHeartbeats 400000 in
theorem count_nil (sb : Nat) (w : World) (hc : w.cell? ⟨sb, 8, none⟩ = some (.map none)) :
    Calls Try.prog 28 #[.pointer (some ⟨sb, 7, none⟩)] w fun e w' => e = .returned (.int .i64 0) ∧ Keeps (fun _ => False) w w' := by
  have hrg := range_nil (P := Try.prog) (t := 62) Try.underlying62 w
  have hnx := next_nil (P := Try.prog) (r := w.heap.size) 0 (w.alloc (.mapIter none 0 #[] 0)) (heap_new w _)
  go_enter Try.func28, Try.ntmps28
  go_wp2
  go_loopw [3] (fun i wr => i = .int .i64 0 ∧ wr = w.alloc (.mapIter none 0 #[] 0)) (fun _ _ => 0)
  case atStart => exact ⟨rfl, rfl⟩
  case round =>
    obtain ⟨rfl, rfl⟩ := hrel
    go_wp2
    go_ret
    exact ⟨rfl, Keeps.alloc _ _ _⟩

/-- Count, whatever there is. -/
theorem count_any (R : Rep) (w : World) (h : StoreAt w R) : Calls Try.prog 28 #[.pointer (some ⟨R.sb, 7, none⟩)] w fun e w' => ∃ c : Int, e = .returned (.int .i64 c) ∧ Keeps (fun _ => False) w w' := by
  cases hv : R.vm with
  | none =>
    refine (count_nil R.sb w ((h.cell 8).trans (by rw [← hv]; rfl))).mono ?_
    rintro e w' ⟨rfl, hk⟩
    exact ⟨0, rfl, hk⟩
  | some b => exact count_map R w h b hv

end Go.Proofs.Ytfcocbcihhdbkaa

/- Look. -/
namespace Go.Proofs.Ytfcocbcihhdbkaa
open Go.RowKit

theorem look_results (W : World) (b : Nat) (x0 x1 x2 x3 x4 x5 : Value) (tmps : Array Value) (h2 : tmps.getD 2 undef = .pointer (some ⟨b, 0, none⟩)) (h : W.heap[b]? = some (.cells #[x0, x1, x2, x3, x4, x5] 38 (0, 0))) :
    (results Try.f12 tmps).run Try.prog W = .ok (.agg #[x0, x1, x2, x3, x4, x5]) W := by
  have e0 := cell_of_heap h 0
  have e1 := cell_of_heap h 1
  have e2 := cell_of_heap h 2
  have e3 := cell_of_heap h 3
  have e4 := cell_of_heap h 4
  have e5 := cell_of_heap h 5
  simp at e0 e1 e2 e3 e4 e5
  simp only [Array.getD_eq_getD_getElem?] at h2
  simp [results, Try.results12, go_sem, h2, e0, e1, e2, e3, e4, e5]

theorem heap_set6 {W : World} {b : Nat} {x0 x1 x2 x3 x4 x5 : Value} {e : TypeId} (h : W.heap[b]? = some (.cells #[x0, x1, x2, x3, x4, x5] e (0, 0))) (v0 v1 v2 v3 v4 v5 : Value) :
    ((((((W.setCell ⟨b, 0, none⟩ v0).setCell ⟨b, 1, none⟩ v1).setCell ⟨b, 2, none⟩ v2).setCell ⟨b, 3, none⟩ v3).setCell ⟨b, 4, none⟩ v4).setCell ⟨b, 5, none⟩ v5).heap[b]? = some (.cells #[v0, v1, v2, v3, v4, v5] e (0, 0)) := by
  have := heap_setCell_same (i := 5) (heap_setCell_same (i := 4) (heap_setCell_same (i := 3) (heap_setCell_same (i := 2) (heap_setCell_same (i := 1) (heap_setCell_same (i := 0) h v0) v1) v2) v3) v4) v5
  simpa using this

theorem keep6 {W : World} {s e : Nat} {v0 v1 v2 v3 v4 v5 u0 u1 u3 u6 : Value} (h : s ≠ e) (h0 : W.cell? ⟨s, 0, none⟩ = some u0) (h1 : W.cell? ⟨s, 1, none⟩ = some u1) (h3 : W.cell? ⟨s, 3, none⟩ = some u3) (h6 : W.cell? ⟨s, 6, none⟩ = some u6) :
    let W' := (((((W.setCell ⟨e, 0, none⟩ v0).setCell ⟨e, 1, none⟩ v1).setCell ⟨e, 2, none⟩ v2).setCell ⟨e, 3, none⟩ v3).setCell ⟨e, 4, none⟩ v4).setCell ⟨e, 5, none⟩ v5
    W'.cell? ⟨s, 0, none⟩ = some u0 ∧ W'.cell? ⟨s, 1, none⟩ = some u1 ∧ W'.cell? ⟨s, 3, none⟩ = some u3 ∧ W'.cell? ⟨s, 6, none⟩ = some u6 := by
  have hk : Keeps (· = e) W ((((((W.setCell ⟨e, 0, none⟩ v0).setCell ⟨e, 1, none⟩ v1).setCell ⟨e, 2, none⟩ v2).setCell ⟨e, 3, none⟩ v3).setCell ⟨e, 4, none⟩ v4).setCell ⟨e, 5, none⟩ v5) :=
    ((((((Keeps.refl (· = e) W).st (.inr rfl) _).st (.inr rfl) _).st (.inr rfl) _).st (.inr rfl) _).st (.inr rfl) _).st (.inr rfl) _
  exact ⟨hk.cell (p := ⟨s, 0, none⟩) h0 h, hk.cell (p := ⟨s, 1, none⟩) h1 h, hk.cell (p := ⟨s, 3, none⟩) h3 h, hk.cell (p := ⟨s, 6, none⟩) h6 h⟩

set_option maxRecDepth 100000 in
set_option maxHeartbeats 800000 in
/-- Look, by what it counts -/
theorem look_core (R : Rep) (w : World) (h : StoreAt w R) (pp pc : Int → Prop)
    (hP : ∀ W, Keeps (fun _ => False) w W → Calls Try.prog 27 #[.pointer (some ⟨R.sb, 0, none⟩)] W fun e w' => ∃ c : Int, pp c ∧ e = .returned (.int .i64 c) ∧ Keeps (fun _ => False) W w')
    (hC : ∀ W, Keeps (fun _ => False) w W → Calls Try.prog 28 #[.pointer (some ⟨R.sb, 7, none⟩)] W fun e w' => ∃ c : Int, pc c ∧ e = .returned (.int .i64 c) ∧ Keeps (fun _ => False) W w') :
    Calls Try.prog 12 #[.pointer (some ⟨R.sb, 0, none⟩)] w fun e w' => (∃ p c : Int, pp p ∧ pc c ∧ e = .returned (.agg #[.int .i64 R.now, .int .i64 R.floor, .int .i64 R.works.length, .int .i64 p, .int .i64 c, .int .i64 R.copyings.length])) ∧ Keeps (fun _ => False) w w' := by
  have HP := hid hP
  have HC := hid hC
  have HL : Hid (∀ W, Keeps (fun _ => False) w W → (Builtin.len_ #[59] 3 #[.map R.wm]).run Try.prog W = .ok (.int .i64 R.works.length) W) := fun W hk => by
    have := (h.kept hk (fun _ _ h => h)).works.worksMap.length (P := Try.prog) Try.underlying59 3
    rwa [List.length_map] at this
  have HL6 : Hid (∀ W, Keeps (fun _ => False) w W → (Builtin.len_ #[61] 3 #[.map R.cm]).run Try.prog W = .ok (.int .i64 R.copyings.length) W) := fun W hk => by
    have := (h.kept hk (fun _ _ h => h)).works.copyMap.length (P := Try.prog) Try.underlying61 3
    rwa [List.length_map] at this
  have hc0 : w.cell? ⟨R.sb, 0, none⟩ = some (.int .i64 R.now) := h.cell 0
  have hc1 : w.cell? ⟨R.sb, 1, none⟩ = some (.int .i64 R.floor) := h.cell 1
  have hc3 : w.cell? ⟨R.sb, 3, none⟩ = some (.map R.wm) := h.cell 3
  have hc6 : w.cell? ⟨R.sb, 6, none⟩ = some (.map R.cm) := h.cell 6
  have hlt := h.lt
  clear h hP hC
  go_enter Try.func12, Try.ntmps12
  go_wp2_with fail
  have hl0 := HL.out ((w.alloc (.cells #[.int .i64 0, .int .i64 0, .int .i64 0, .int .i64 0, .int .i64 0, .int .i64 0] 38)).drew) (((Keeps.refl (fun _ => False) w).al _).dr)
  have hm0 := HL6.out ((w.alloc (.cells #[.int .i64 0, .int .i64 0, .int .i64 0, .int .i64 0, .int .i64 0, .int .i64 0] 38)).drew) (((Keeps.refl (fun _ => False) w).al _).dr)
  have hne : R.sb ≠ w.heap.size := by omega
  have HC0 := hid (And.intro hc0 (And.intro hc1 (And.intro hc3 hc6)))
  go_region_held3 (fun W => W.cell? ⟨R.sb, 0, none⟩ = some (.int .i64 R.now) ∧ W.cell? ⟨R.sb, 1, none⟩ = some (.int .i64 R.floor) ∧ W.cell? ⟨R.sb, 3, none⟩ = some (.map R.wm) ∧ W.cell? ⟨R.sb, 6, none⟩ = some (.map R.cm) ∧ (Builtin.len_ #[59] 3 #[.map R.wm]).run Try.prog W = .ok (.int .i64 R.works.length) W ∧ (Builtin.len_ #[61] 3 #[.map R.cm]).run Try.prog W = .ok (.int .i64 R.copyings.length) W) (first | go_keep | (refine ⟨(keep6 hne r0 r1 r3 r6).1, (keep6 hne r0 r1 r3 r6).2.1, (keep6 hne r0 r1 r3 r6).2.2.1, (keep6 hne r0 r1 r3 r6).2.2.2, HL.out _ ?_, HL6.out _ ?_⟩; all_goals exact (((((hk4'.st (.inl (Nat.le_refl _)) _).st (.inl (Nat.le_refl _)) _).st (.inl (Nat.le_refl _)) _).st (.inl (Nat.le_refl _)) _).st (.inl (Nat.le_refl _)) _).st (.inl (Nat.le_refl _)) _)) (first
    | (go_at_call 27; refine (HP.out _ (((Keeps.refl (fun _ => False) w).al _).dr)).mono ?_; rintro e w3 ⟨pn, hpn, rfl, hk3⟩; have hk3' : Keeps (fun _ => False) w w3 := (((Keeps.refl (fun _ => False) w).al _).dr).tr hk3 (fun _ h => h); have hl3 := HL.out w3 hk3'; have hm3 := HL6.out w3 hk3'; have p0 := hk3'.cell (p := ⟨R.sb, 0, none⟩) HC0.out.1 (fun h => h); have p1 := hk3'.cell (p := ⟨R.sb, 1, none⟩) HC0.out.2.1 (fun h => h); have p3 := hk3'.cell (p := ⟨R.sb, 3, none⟩) HC0.out.2.2.1 (fun h => h); have p6 := hk3'.cell (p := ⟨R.sb, 6, none⟩) HC0.out.2.2.2 (fun h => h); have HPN := hid hpn; clear hpn)
    | (go_at_call 28; refine (HC.out _ hk3').mono ?_; rintro e w4 ⟨c, hcc, rfl, hk4⟩; have HCC := hid hcc; clear hcc; have hk4' : Keeps (fun _ => False) w w4 := hk3'.tr hk4 (fun _ h => h); have hl4 := HL.out w4 hk4'; have hm4 := HL6.out w4 hk4'; have r0 := hk4'.cell (p := ⟨R.sb, 0, none⟩) HC0.out.1 (fun h => h); have r1 := hk4'.cell (p := ⟨R.sb, 1, none⟩) HC0.out.2.1 (fun h => h); have r3 := hk4'.cell (p := ⟨R.sb, 3, none⟩) HC0.out.2.2.1 (fun h => h); have r6 := hk4'.cell (p := ⟨R.sb, 6, none⟩) HC0.out.2.2.2 (fun h => h); have hE : w4.heap[w.heap.size]? = some (.cells #[.int .i64 0, .int .i64 0, .int .i64 0, .int .i64 0, .int .i64 0, .int .i64 0] 38 (0, 0)) := box_kept ((Keeps.drew (fun _ => False) _).tr (hk3.tr hk4 (fun _ h => h)) (fun _ h => h)) (fun h => h); have t0 := cell_of_heap hE 0; have t1 := cell_of_heap hE 1; have t2 := cell_of_heap hE 2; have t3 := cell_of_heap hE 3; have t4 := cell_of_heap hE 4; have t5 := cell_of_heap hE 5; have u0 := frozen_of_heap hE 0; have u1 := frozen_of_heap hE 1; have u2 := frozen_of_heap hE 2; have u3 := frozen_of_heap hE 3; have u4 := frozen_of_heap hE 4; have u5 := frozen_of_heap hE 5))
  clear hl0 hl3 hl4 hm0 hm3 hm4 p0 p1 p3 p6 r0 r1 r3 r6 t0 t1 t2 t3 t4 t5 u0 u1 u2 u3 u4 u5
  have HE := hid hE
  clear hE
  go_wp2
  refine bodyPost_ret (look_results _ _ _ _ _ _ _ _ _ rfl (heap_set6 HE.out _ _ _ _ _ _)) rfl ⟨⟨pn, c, HPN.out, HCC.out, rfl⟩, ?_⟩
  exact (((((hk4'.st (.inl (Nat.le_refl _)) _).st (.inl (Nat.le_refl _)) _).st (.inl (Nat.le_refl _)) _).st (.inl (Nat.le_refl _)) _).st (.inl (Nat.le_refl _)) _).st (.inl (Nat.le_refl _)) _

theorem look_any (R : Rep) (w : World) (h : StoreAt w R) (hpm : R.pm = none) (hcm : R.cm = none) :
    Calls Try.prog 12 #[.pointer (some ⟨R.sb, 0, none⟩)] w fun e w' => (∃ c : Int, e = .returned (.agg #[.int .i64 R.now, .int .i64 R.floor, .int .i64 R.works.length, .int .i64 0, .int .i64 c, .int .i64 0])) ∧ Keeps (fun _ => False) w w' := by
  have hcl : R.copyings = [] := by
    have := h.works.copyMap
    rw [hcm] at this
    have h2 : (R.copyings.map fun p => (p.1, p.2.val)) = [] := this
    simpa using h2
  refine (look_core R w h (· = 0) (fun _ => True) (fun W hk => ?_) (fun W hk => ?_)).mono ?_
  · refine (allPins_nil R.sb W (((h.kept hk (fun _ _ h => h)).cell 4).trans (by rw [← hpm]; rfl))).mono ?_
    rintro e w' ⟨rfl, hk⟩
    exact ⟨0, rfl, rfl, hk⟩
  · refine (count_any R W (h.kept hk (fun _ _ h => h))).mono ?_
    rintro e w' ⟨c, rfl, hk⟩
    exact ⟨c, trivial, rfl, hk⟩
  · rintro e w' ⟨⟨p, c, rfl, -, rfl⟩, hk⟩
    exact ⟨⟨c, by rw [hcl]; rfl⟩, hk⟩

end Go.Proofs.Ytfcocbcihhdbkaa

/- What is good of a store, carried on. -/
namespace Go.Proofs.Ytfcocbcihhdbkaa
open Go.RowKit

theorem Good.del {R : Rep} (g : Good R) (n : Int) : Good { R with works := del R.works n } := by
  have hs : ∀ p ∈ Go.Proofs.Ytfcocbcihhdbkaa.del R.works n, p ∈ R.works := fun p hp => (del_sublist _ _).subset hp
  exact ⟨g.now, g.begun, Nat.le_trans (del_sublist R.works n).length_le g.works8, fun p hp => g.numbers p (hs p hp), fun p hp => g.began p (hs p hp), fun p hp => g.writes30 p (hs p hp), fun p hp => g.wkeys p (hs p hp), g.rising, g.states, g.filled, g.hkeys, g.hvals, g.sorted, g.keys⟩

theorem vers_of_mem {hist : List (ByteArray × HsR)} (hn : (hist.map (·.1)).Nodup) {p : ByteArray × HsR} (hp : p ∈ hist) : look hist p.1 = some p.2 ∧ versOf hist p.1 = p.2.vers := by
  have h1 : look hist p.1 = some p.2 := by
    induction hist with
    | nil => cases hp
    | cons q r ih =>
      obtain ⟨a, y⟩ := q
      rw [List.map_cons, List.nodup_cons] at hn
      unfold look
      rcases List.mem_cons.1 hp with e | hp'
      · cases e
        simp
      · have hne : a ≠ p.1 := fun e => hn.1 (List.mem_map.2 ⟨p, hp', e.symm⟩)
        rw [if_neg hne]
        exact ih hn.2 hp'
  exact ⟨h1, by unfold versOf; rw [h1]; rfl⟩

theorem vers_mem {hist : List (ByteArray × HsR)} {k : ByteArray} (h : versOf hist k ≠ []) : ∃ p ∈ hist, p.1 = k ∧ p.2.vers = versOf hist k := by
  unfold versOf at h ⊢
  cases hl : look hist k with
  | none => rw [hl] at h; simp at h
  | some y => exact ⟨(k, y), look_mem hl, rfl, rfl⟩

theorem base_vers {R : Rep} (g : Good R) (k : ByteArray) : Rising (versOf R.hist k) ∧ (∀ v ∈ versOf R.hist k, (0 ≤ v.state ∧ v.state ≤ R.now) ∧ valB v.value = true) ∧ (versOf R.hist k ≠ [] → keyB k = true) := by
  by_cases h : versOf R.hist k = []
  · rw [h]
    exact ⟨List.Pairwise.nil, fun v hv => (by cases hv), fun h => absurd rfl h⟩
  · obtain ⟨p, hp, rfl, e⟩ := vers_mem h
    rw [← e]
    exact ⟨g.rising p hp, fun v hv => ⟨g.states p hp v hv, g.hvals p hp v hv⟩, fun _ => g.hkeys p hp⟩

/-- Versions more: still good, at the next state. -/
theorem Good.grew {R Rn : Rep} {ks : List ByteArray} {ver : ByteArray → Ver} (g : Good R) (h : Grew R ks ver Rn) (hn : (Rn.hist.map (·.1)).Nodup) (now : Int) (hnow : R.now ≤ now ∧ now ≤ 1000000000) (hks : ∀ k ∈ ks, keyB k = true) (hv : ∀ k ∈ ks, valB (ver k).value = true ∧ (ver k).state = now ∧ R.now < now) : Good { Rn with now := now } := by
  have hs := h.same
  have ew : Rn.works = R.works := by rw [hs]
  have eb : Rn.begun = R.begun := by rw [hs]
  have hall : ∀ p ∈ Rn.hist, Rising p.2.vers ∧ (∀ v ∈ p.2.vers, (0 ≤ v.state ∧ v.state ≤ now) ∧ valB v.value = true) ∧ keyB p.1 = true := by
    intro p hp
    obtain ⟨b1, b2, b3⟩ := base_vers g p.1
    have hne := h.tied.filled p hp
    rw [← (vers_of_mem hn hp).2, h.vers] at hne ⊢
    have hn0 := g.now.1
    cases hm : memB ks p.1 with
    | false =>
      rw [hm] at hne
      simp only [Bool.false_eq_true, if_false] at hne ⊢
      exact ⟨b1, fun v hv' => ⟨⟨(b2 v hv').1.1, Int.le_trans (b2 v hv').1.2 hnow.1⟩, (b2 v hv').2⟩, b3 hne⟩
    | true =>
      have hk := (memB_iff _ _).1 hm
      obtain ⟨v1, v2, v3⟩ := hv _ hk
      simp only [if_true]
      refine ⟨?_, fun v hv' => ?_, hks _ hk⟩
      · unfold Rising
        rw [List.pairwise_append]
        refine ⟨b1, List.pairwise_singleton _ _, fun a ha b hb => ?_⟩
        have hb' : b = ver p.1 := by simpa using hb
        have := (b2 a ha).1.2
        rw [hb', v2]
        omega
      · rcases List.mem_append.1 hv' with h1 | h1
        · exact ⟨⟨(b2 v h1).1.1, Int.le_trans (b2 v h1).1.2 hnow.1⟩, (b2 v h1).2⟩
        · have e : v = ver p.1 := by simpa using h1
          rw [e, v2]
          exact ⟨⟨by omega, Int.le_refl _⟩, v1⟩
  refine ⟨⟨Int.le_trans g.now.1 hnow.1, hnow.2⟩, ?_, ?_, ?_, ?_, ?_, ?_, fun p hp => (hall p hp).1, fun p hp v hv' => ((hall p hp).2.1 v hv').1, h.tied.filled, fun p hp => (hall p hp).2.2, fun p hp v hv' => ((hall p hp).2.1 v hv').2, ?_, ?_⟩
  · show 0 ≤ Rn.begun ∧ _
    rw [eb]; exact g.begun
  · show Rn.works.length ≤ 8
    rw [ew]; exact g.works8
  · show ∀ p ∈ Rn.works, 1 ≤ p.1 ∧ p.1 ≤ Rn.begun
    rw [ew, eb]; exact g.numbers
  · show ∀ p ∈ Rn.works, 0 ≤ p.2.began ∧ p.2.began ≤ now
    rw [ew]; exact fun p hp => ⟨(g.began p hp).1, Int.le_trans (g.began p hp).2 hnow.1⟩
  · show ∀ p ∈ Rn.works, _
    rw [ew]; exact g.writes30
  · show ∀ p ∈ Rn.works, _
    rw [ew]; exact g.wkeys
  · exact h.tied.rises.imp (fun {a b} hab => (ltK_iff a b).1 hab)
  · intro k
    show k ∈ Rn.keys ↔ ∃ x, look Rn.hist k = some x
    rw [← memB_iff, h.tied.keys]
    exact Option.isSome_iff_exists

theorem Good.entered {R : Rep} (g : Good R) (hl : R.works.length < 8) (hb : R.begun < 1000000000000000) (b m : Nat) (wm : Option Nat) : Good { R with begun := R.begun + 1, wm, works := R.works ++ [(R.begun + 1, ⟨b, m, R.now, []⟩)] } := by
  have hm : ∀ p ∈ R.works ++ [(R.begun + 1, (⟨b, m, R.now, []⟩ : WkR))], p ∈ R.works ∨ p = (R.begun + 1, ⟨b, m, R.now, []⟩) := fun p hp => by simpa using hp
  have hg := g.begun
  have hn := g.now
  refine ⟨g.now, ⟨?_, ?_⟩, ?_, ?_, ?_, ?_, ?_, g.rising, g.states, g.filled, g.hkeys, g.hvals, g.sorted, g.keys⟩
  · show 0 ≤ R.begun + 1
    omega
  · show R.begun + 1 ≤ _
    omega
  · show (R.works ++ [_]).length ≤ 8
    simp; omega
  · intro p hp
    show 1 ≤ p.1 ∧ p.1 ≤ R.begun + 1
    rcases hm p hp with h | h
    · have := g.numbers p h; omega
    · rw [h]; simp; omega
  · intro p hp
    rcases hm p hp with h | h
    · exact g.began p h
    · rw [h]; exact ⟨hn.1, Int.le_refl _⟩
  · intro p hp
    rcases hm p hp with h | h
    · exact g.writes30 p h
    · rw [h]; simp
  · intro p hp
    rcases hm p hp with h | h
    · exact g.wkeys p h
    · rw [h]; intro q hq; cases hq

theorem Good.written {R : Rep} {n : Int} {x : WkR} {key val : ByteArray} {gone : Bool} (g : Good R) (hn : look R.works n = some x) (hw : (R.works.map (·.1)).Nodup) (hx : (x.writes.map (·.1)).Nodup) (hkb : keyB key = true) (hvb : valB val = true) (hfit : (look x.writes key).isSome = true ∨ x.writes.length < 30) :
    Good { R with works := put R.works n { x with writes := put x.writes key ⟨0, val, gone⟩ } } := by
  have hxm := look_mem hn
  have hm : ∀ p ∈ put R.works n { x with writes := put x.writes key ⟨0, val, gone⟩ }, p ∈ R.works ∨ p = (n, { x with writes := put x.writes key ⟨0, val, gone⟩ }) := fun p hp => by
    rcases mem_put hw hp with h | ⟨h, _⟩
    · exact .inr h
    · exact .inl h
  refine ⟨g.now, g.begun, ?_, ?_, ?_, ?_, ?_, g.rising, g.states, g.filled, g.hkeys, g.hvals, g.sorted, g.keys⟩
  · show (put R.works n _).length ≤ 8
    rw [length_put, hn]
    exact g.works8
  · intro p hp
    rcases hm p hp with h | h
    · exact g.numbers p h
    · rw [h]
      have := g.numbers (n, x) hxm
      exact this
  · intro p hp
    rcases hm p hp with h | h
    · exact g.began p h
    · rw [h]
      have := g.began (n, x) hxm
      exact this
  · intro p hp
    rcases hm p hp with h | h
    · exact g.writes30 p h
    · rw [h]
      have h30 := g.writes30 _ hxm
      show (put x.writes key _).length ≤ 30
      rw [length_put]
      simp only at h30
      split
      · exact h30
      · rename_i hs
        rcases hfit with h1 | h1
        · exact absurd h1 hs
        · omega
  · intro p hp
    rcases hm p hp with h | h
    · exact g.wkeys p h
    · rw [h]
      intro q hq
      rcases mem_put hx hq with h1 | ⟨h1, _⟩
      · rw [h1]; exact ⟨hkb, hvb, rfl⟩
      · exact g.wkeys _ hxm q h1

end Go.Proofs.Ytfcocbcihhdbkaa

/- A store, told by what can be asked of it: its calls, as they look from outside. -/
namespace Go.Proofs.Ytfcocbcihhdbkaa
open Go.RowKit Go.Shelf

/-- what can be asked of a store -/
structure Abs where
  now : Int
  floor : Int
  begun : Int
  works : List (Int × (Int × List (ByteArray × Ver)))
  vers : ByteArray → List Ver

def Rep.abs (R : Rep) : Abs := ⟨R.now, R.floor, R.begun, R.works.map (fun p => (p.1, (p.2.began, p.2.writes))), versOf R.hist⟩

def Abs.zero : Abs := ⟨0, 0, 0, [], fun _ => []⟩
def Abs.opened (A : Abs) : Abs := { A with begun := A.begun + 1, works := A.works ++ [(A.begun + 1, (A.now, []))] }
def Abs.ended (A : Abs) (n : Int) : Abs := { A with works := del A.works n }
def Abs.wrote (A : Abs) (n bg : Int) (ws : List (ByteArray × Ver)) (key : ByteArray) (v : Ver) : Abs := { A with works := put A.works n (bg, put ws key v) }
def Abs.became (A : Abs) (n : Int) (ws : List (ByteArray × Ver)) : Abs :=
  { A with now := A.now + 1, works := del A.works n, vers := fun k => if (look ws k).isSome then A.vers k ++ [verOf ws (A.now + 1) k] else A.vers k }

/-- A store without pins that is as it should be, with keys of K alone. -/
structure Inv (K : List ByteArray) (w : World) (R : Rep) : Prop where
  st : StoreAt w R
  good : Good R
  tied : Tied R
  pm : R.pm = none ∧ R.cm = none
  wm : 1 ≤ R.begun → ∃ b0, R.wm = some b0
  kin : ∀ k ∈ R.keys, k ∈ K
  win : ∀ p ∈ R.works, ∀ q ∈ p.2.writes, q.1 ∈ K

/-- The store at b is A, and has nothing of O. -/
def SAt (K : List ByteArray) (O : Nat → Prop) (w : World) (b : Nat) (A : Abs) : Prop := ∃ R, Inv K w R ∧ R.sb = b ∧ R.abs = A ∧ ∀ k ∈ R.fp, ¬ O k

theorem Inv.kept {K : List ByteArray} {w w' : World} {R : Rep} {S : Nat → Prop} (h : Inv K w R) (hk : Keeps S w w') (hS : ∀ k ∈ R.fp, ¬ S k) : Inv K w' R :=
  ⟨h.st.kept hk hS, h.good, h.tied, h.pm, h.wm, h.kin, h.win⟩

theorem SAt.kept {K : List ByteArray} {O S : Nat → Prop} {w w' : World} {b : Nat} {A : Abs} (h : SAt K O w b A) (hk : Keeps S w w') (hS : ∀ k, k < w.heap.size → S k → O k) : SAt K O w' b A := by
  obtain ⟨R, h1, h2, h3, h4⟩ := h
  exact ⟨R, h1.kept hk (fun k hk' hs => h4 k hk' (hS k (fp_lt h1.st k hk') hs)), h2, h3, h4⟩

theorem SAt.more {K : List ByteArray} {O O' : Nat → Prop} {w : World} {b : Nat} {A : Abs} (h : SAt K O w b A) (hO : ∀ k, O' k → O k ∨ w.heap.size ≤ k) : SAt K O' w b A := by
  obtain ⟨R, h1, h2, h3, h4⟩ := h
  refine ⟨R, h1, h2, h3, fun k hk ho => ?_⟩
  rcases hO k ho with h | h
  · exact h4 k hk h
  · have := fp_lt h1.st k hk
    omega

theorem SAt.lt {K : List ByteArray} {O : Nat → Prop} {w : World} {b : Nat} {A : Abs} (h : SAt K O w b A) : b < w.heap.size ∧ ¬ O b := by
  obtain ⟨R, h1, rfl, h3, h4⟩ := h
  exact ⟨h1.st.lt, h4 _ (by simp [Rep.fp])⟩

theorem works_nodup {w : World} {R : Rep} (h : StoreAt w R) : (R.works.map (·.1)).Nodup := by
  have := h.works.worksMap.nodup
  simpa [List.map_map, Function.comp_def] using this

theorem writes_nodup {w : World} {R : Rep} (h : StoreAt w R) {n : Int} {x : WkR} (hx : (n, x) ∈ R.works) : (x.writes.map (·.1)).Nodup := by
  have := (h.works.worksEach _ hx).2.nodup
  simpa [List.map_map, Function.comp_def] using this

theorem abs_look {R : Rep} {n bg : Int} {ws : List (ByteArray × Ver)} (h : look R.abs.works n = some (bg, ws)) : ∃ x, look R.works n = some x ∧ x.began = bg ∧ x.writes = ws := by
  have e : R.abs.works = R.works.map (fun p => (p.1, (fun y : WkR => (y.began, y.writes)) p.2)) := rfl
  rw [e, look_map (fun y : WkR => (y.began, y.writes))] at h
  cases hl : look R.works n with
  | none => rw [hl] at h; cases h
  | some x =>
    rw [hl] at h
    simp only [Option.map_some, Option.some.injEq, Prod.mk.injEq] at h
    exact ⟨x, rfl, h.1, h.2⟩

theorem length_le_of_subset {α : Type} [DecidableEq α] : ∀ {l K : List α}, l.Nodup → (∀ k ∈ l, k ∈ K) → l.length ≤ K.length
  | [], K, _, _ => by simp
  | a :: l, K, hn, hs => by
    have ha : a ∈ K := hs a (by simp)
    have h1 := length_le_of_subset (l := l) (K := K.erase a) (List.nodup_cons.1 hn).2 (fun k hk => by
      have hne : k ≠ a := fun e => (List.nodup_cons.1 hn).1 (e ▸ hk)
      exact (List.mem_erase_of_ne hne).2 (hs k (by simp [hk])))
    have h2 := List.length_erase_of_mem ha
    have h3 := List.length_pos_of_mem ha
    simp only [List.length_cons]
    omega

theorem Inv.keysLen {K : List ByteArray} {w : World} {R : Rep} (h : Inv K w R) : R.keys.length ≤ K.length := length_le_of_subset (rises_nodup h.tied.rises) h.kin

theorem Inv.writesLen {K : List ByteArray} {w : World} {R : Rep} (h : Inv K w R) {n : Int} {x : WkR} (hx : (n, x) ∈ R.works) : x.writes.length ≤ K.length := by
  have := length_le_of_subset (l := x.writes.map (·.1)) (K := K) (writes_nodup h.st hx) (fun k hk => by
    obtain ⟨q, hq, rfl⟩ := List.mem_map.1 hk
    exact h.win _ hx q hq)
  simpa using this

/-- A key that isn't there yet finds room. -/
theorem Inv.fits {K : List ByteArray} {w : World} {R : Rep} (h : Inv K w R) (hK : K.length ≤ 30) {n : Int} {x : WkR} (hx : (n, x) ∈ R.works) {key : ByteArray} (hkey : key ∈ K) : (look x.writes key).isSome = true ∨ x.writes.length < 30 := by
  cases hl : look x.writes key with
  | some v => exact .inl rfl
  | none =>
    right
    have hnot : key ∉ x.writes.map (·.1) := fun hm => by
      obtain ⟨q, hq, e⟩ := List.mem_map.1 hm
      exact look_none.1 hl q hq e
    have := length_le_of_subset (l := key :: x.writes.map (·.1)) (K := K) (List.nodup_cons.2 ⟨hnot, writes_nodup h.st hx⟩) (fun k hk => by
      rcases List.mem_cons.1 hk with rfl | hk
      · exact hkey
      · obtain ⟨q, hq, rfl⟩ := List.mem_map.1 hk
        exact h.win _ hx q hq)
    simp at this
    omega

theorem good_zero (b : Nat) : Good (Rep.zero b) :=
  ⟨⟨by simp [Rep.zero], by simp [Rep.zero]⟩, ⟨by simp [Rep.zero], by simp [Rep.zero]⟩, by simp [Rep.zero], fun p hp => (by cases hp), fun p hp => (by cases hp), fun p hp => (by cases hp), fun p hp => (by cases hp), fun p hp => (by cases hp), fun p hp => (by cases hp), fun p hp => (by cases hp), fun p hp => (by cases hp), fun p hp => (by cases hp), List.Pairwise.nil, fun k => ⟨fun hk => (by cases hk), fun ⟨x, hx⟩ => (by cases hx)⟩⟩

theorem new_s (K : List ByteArray) (O : Nat → Prop) (w : World) (hO : ∀ k, O k → k < w.heap.size) :
    Calls Try.prog 20 #[] w fun e w' => e = .returned (.pointer (some ⟨w.heap.size, 0, none⟩)) ∧ SAt K O w' w.heap.size Abs.zero ∧ Keeps (fun _ => False) w w' := by
  refine (new_any w).mono ?_
  rintro e w' ⟨rfl, h, hk⟩
  refine ⟨rfl, ⟨Rep.zero w.heap.size, ⟨h, good_zero _, tied_zero _, ⟨rfl, rfl⟩, fun h => absurd h (by simp [Rep.zero]), fun k hk => (by cases hk), fun p hp => (by cases hp)⟩, rfl, rfl, fun k hk ho => ?_⟩, hk⟩
  have e : k = w.heap.size := by simpa [Rep.fp, Rep.fpWorks, Rep.fpPast, Rep.zero, pcOf, Value.ownBlock] using hk
  have := hO k ho
  omega

theorem keeps_off {R : Rep} {O : Nat → Prop} {w w' : World} (h : ∀ k ∈ R.fp, ¬ O k) (hk : Keeps (· ∈ R.fp) w w') : Keeps (fun k => ¬ O k) w w' := hk.mono (fun k _ hf => h k hf)

/-- Begin -/
theorem begin_s {K : List ByteArray} {O : Nat → Prop} {w : World} {b : Nat} {A : Abs} (h : SAt K O w b A) (hO : ∀ k, O k → k < w.heap.size) (hl : A.works.length < 8) (hb : A.begun < 1000000000000000) :
    Calls Try.prog 7 #[.pointer (some ⟨b, 0, none⟩)] w fun e w' => e = .returned (.tuple #[.int .i64 (A.begun + 1), .int .i64 0]) ∧ SAt K O w' b A.opened ∧ Keeps (fun k => ¬ O k) w w' := by
  obtain ⟨R, hi, rfl, rfl, hf⟩ := h
  have hl' : R.works.length < 8 := by simpa [Rep.abs] using hl
  have hb' : R.begun < 1000000000000000 := hb
  have hnone : look R.works (R.begun + 1) = none := look_none.2 (fun p hp e => by have := hi.good.numbers p hp; omega)
  have hcall : Calls Try.prog 7 #[.pointer (some ⟨R.sb, 0, none⟩)] w fun e w' => e = .returned (.tuple #[.int .i64 (R.begun + 1), .int .i64 0]) ∧ BeginPost R w w' := by
    cases hwm : R.wm with
    | none => exact begin_none R w hi.st hwm hi.good.begun.1 (by omega)
    | some b0 => exact begin_some R w hi.st b0 hwm hl' hi.good.begun.1 (by omega) hnone
  refine hcall.mono ?_
  rintro e w' ⟨rfl, bb, m, wm, h1, h2, h3, h4, h5⟩
  refine ⟨rfl, ⟨_, ⟨h1, hi.good.entered hl' hb' bb m wm, ⟨hi.tied.rises, hi.tied.keys, hi.tied.filled⟩, hi.pm, fun _ => wm_some h1 (n := R.begun + 1) (x := ⟨bb, m, R.now, []⟩) ?_, hi.kin, ?_⟩, rfl, ?_, ?_⟩, keeps_off hf h2⟩
  · exact look_of_mem (works_nodup h1) (List.mem_append_right _ (by simp))
  · intro p hp q hq
    rcases List.mem_append.1 hp with hp | hp
    · exact hi.win p hp q hq
    · have e : p = (R.begun + 1, ⟨bb, m, R.now, []⟩) := by simpa using hp
      subst e
      cases hq
  · simp [Rep.abs, Abs.opened]
  · intro k hk
    have hk' : k = R.sb ∨ k ∈ wm.toList ∨ k ∈ R.fp ∨ k = bb ∨ k = m := by
      simp only [Rep.fp, Rep.fpWorks, Rep.fpPast, List.mem_cons, List.mem_append, List.flatMap_append, List.flatMap_cons, List.flatMap_nil, List.append_nil, List.not_mem_nil, or_false] at hk ⊢
      rcases hk with h | ((h | h) | h | h) | h
      · exact .inl h
      · exact .inr (.inl h)
      · exact .inr (.inr (.inl (.inr (.inl (.inl (.inr h))))))
      · exact .inr (.inr (.inl (.inr (.inl (.inr h)))))
      · exact .inr (.inr (.inr h))
      · exact .inr (.inr (.inl (.inr (.inr h))))
    intro ho
    have hk2 := hO k ho
    rcases hk' with rfl | h | h | rfl | rfl
    · exact hf _ (by simp [Rep.fp]) ho
    · rcases h3 with rfl | ⟨q, rfl, hq⟩
      · exact hf k (by simp only [Rep.fp, Rep.fpWorks, List.mem_cons, List.mem_append]; exact .inr (.inl (.inl (.inl h)))) ho
      · have : k = q := by simp at h; omega
        omega
    · exact hf k h ho
    · omega
    · omega

end Go.Proofs.Ytfcocbcihhdbkaa

/- Put, Delete, Abort, Get, Look of a store, from outside. -/
namespace Go.Proofs.Ytfcocbcihhdbkaa
open Go.RowKit Go.Shelf

theorem fp_written {R : Rep} {n : Int} {x : WkR} {l : List (ByteArray × Ver)} (hn : look R.works n = some x) : Rep.fp { R with works := put R.works n { x with writes := l } } = R.fp := by
  have e := put_flatMap (fun p : Int × WkR => [p.2.blk, p.2.mb]) (v := { x with writes := l }) hn rfl
  simp only [Rep.fp, Rep.fpWorks, Rep.fpPast, e]

theorem Inv.wrote {K : List ByteArray} {w w' : World} {R : Rep} {n : Int} {x : WkR} {key val : ByteArray} {gone : Bool} (h : Inv K w R) (hK : K.length ≤ 30) (hn : look R.works n = some x) (hkey : key ∈ K) (hkb : keyB key = true) (hvb : valB val = true)
    (hs : StoreAt w' { R with works := put R.works n { x with writes := put x.writes key ⟨0, val, gone⟩ } }) : Inv K w' { R with works := put R.works n { x with writes := put x.writes key ⟨0, val, gone⟩ } } := by
  have hx := look_mem hn
  refine ⟨hs, h.good.written hn (works_nodup h.st) (writes_nodup h.st hx) hkb hvb (h.fits hK hx hkey), ⟨h.tied.rises, h.tied.keys, h.tied.filled⟩, h.pm, h.wm, h.kin, ?_⟩
  intro p hp q hq
  rcases mem_put (works_nodup h.st) hp with rfl | ⟨h1, _⟩
  · rcases mem_put (writes_nodup h.st hx) hq with rfl | ⟨h2, _⟩
    · exact hkey
    · exact h.win _ hx q h2
  · exact h.win p h1 q hq

theorem abs_put (R : Rep) (n : Int) (x : WkR) (l : List (ByteArray × Ver)) : (put R.works n { x with writes := l }).map (fun p => (p.1, (p.2.began, p.2.writes))) = put R.abs.works n (x.began, l) := by
  have := put_map (fun y : WkR => (y.began, y.writes)) R.works n { x with writes := l }
  exact this.symm

theorem abs_del (R : Rep) (n : Int) : (del R.works n).map (fun p => (p.1, (p.2.began, p.2.writes))) = del R.abs.works n := by
  have := del_map (fun y : WkR => (y.began, y.writes)) R.works n
  exact this.symm

/-- write -/
theorem write_s {K : List ByteArray} {O : Nat → Prop} {w : World} {b : Nat} {A : Abs} {n bg : Int} {ws : List (ByteArray × Ver)} {key val : ByteArray} (gone : Bool) (h : SAt K O w b A) (hK : K.length ≤ 30) (hn : look A.works n = some (bg, ws)) (hkey : key ∈ K) (hkb : keyB key = true) (hvb : valB val = true) :
    Calls Try.prog 26 #[.pointer (some ⟨b, 0, none⟩), .int .i64 n, .string key, .agg #[.int .i64 0, .string val, .bool gone]] w fun e w' => e = .returned (.int .i64 0) ∧ SAt K O w' b (A.wrote n bg ws key ⟨0, val, gone⟩) ∧ Keeps (fun k => ¬ O k) w w' := by
  obtain ⟨R, hi, rfl, rfl, hf⟩ := h
  obtain ⟨x, hx, rfl, rfl⟩ := abs_look hn
  refine (write_ok R n x key val gone w hi.st hx hkb hvb (hi.fits hK (look_mem hx) hkey) (hi.good.writes30 _ (look_mem hx))).mono ?_
  rintro e w' ⟨rfl, h1, h2⟩
  refine ⟨rfl, ⟨_, hi.wrote hK hx hkey hkb hvb h1, rfl, ?_, ?_⟩, keeps_off hf h2⟩
  · simp only [Rep.abs, Abs.wrote]
    rw [abs_put]
    rfl
  · rw [fp_written hx]
    exact hf

set_option maxRecDepth 100000 in
set_option maxHeartbeats 400000 in
theorem put_s {K : List ByteArray} {O : Nat → Prop} {w : World} {b : Nat} {A : Abs} {n bg : Int} {ws : List (ByteArray × Ver)} {key val : ByteArray} (h : SAt K O w b A) (hK : K.length ≤ 30) (hn : look A.works n = some (bg, ws)) (hkey : key ∈ K) (hkb : keyB key = true) (hvb : valB val = true) :
    Calls Try.prog 10 #[.pointer (some ⟨b, 0, none⟩), .int .i64 n, .string key, .string val] w fun e w' => e = .returned (.int .i64 0) ∧ SAt K O w' b (A.wrote n bg ws key ⟨0, val, false⟩) ∧ Keeps (fun k => ¬ O k) w w' := by
  have HC := hid (write_s (val := val) false h hK hn hkey hkb hvb)
  clear h hn hkey hkb hvb
  go_enter Try.func10, Try.ntmps10
  go_wp2_with (go_at_call 26; go_must (refine (HC.out).mono ?_; rintro e w1 ⟨rfl, h1, h2⟩))
  go_ret
  exact ⟨rfl, h1, h2⟩

set_option maxRecDepth 100000 in
set_option maxHeartbeats 400000 in
theorem delete_s {K : List ByteArray} {O : Nat → Prop} {w : World} {b : Nat} {A : Abs} {n bg : Int} {ws : List (ByteArray × Ver)} {key : ByteArray} (h : SAt K O w b A) (hK : K.length ≤ 30) (hn : look A.works n = some (bg, ws)) (hkey : key ∈ K) (hkb : keyB key = true) :
    Calls Try.prog 19 #[.pointer (some ⟨b, 0, none⟩), .int .i64 n, .string key] w fun e w' => e = .returned (.int .i64 0) ∧ SAt K O w' b (A.wrote n bg ws key ⟨0, ByteArray.empty, true⟩) ∧ Keeps (fun k => ¬ O k) w w' := by
  have HC := hid (write_s (val := ByteArray.empty) true h hK hn hkey hkb (by decide +kernel))
  clear h hn hkey hkb
  go_enter Try.func19, Try.ntmps19
  go_wp2_with (go_at_call 26; go_must (refine (HC.out).mono ?_; rintro e w1 ⟨rfl, h1, h2⟩))
  go_ret
  exact ⟨rfl, h1, h2⟩

end Go.Proofs.Ytfcocbcihhdbkaa

/- Commit of a store, from outside. -/
namespace Go.Proofs.Ytfcocbcihhdbkaa
open Go.RowKit Go.Shelf

theorem look_isSome {β : Type} (l : List (ByteArray × β)) (k : ByteArray) : (look l k).isSome = true ↔ k ∈ l.map (·.1) := by
  cases h : look l k with
  | none =>
    simp only [Option.isSome_none, Bool.false_eq_true, false_iff]
    intro hm
    obtain ⟨q, hq, e⟩ := List.mem_map.1 hm
    exact look_none.1 h q hq e
  | some v =>
    simp only [Option.isSome_some, true_iff]
    exact List.mem_map.2 ⟨_, look_mem h, rfl⟩

theorem memB_perm {ks : List ByteArray} {ws : List (ByteArray × Ver)} (hp : ks.Perm (ws.map (·.1))) (k : ByteArray) : memB ks k = (look ws k).isSome := by
  rw [Bool.eq_iff_iff, memB_iff, look_isSome]
  exact hp.mem_iff

theorem vers_ne {R : Rep} (t : Tied R) {k : ByteArray} (hk : k ∈ R.keys) : versOf R.hist k ≠ [] := by
  have h1 : (look R.hist k).isSome = true := by rw [← t.keys]; exact (memB_iff _ _).2 hk
  obtain ⟨x, hx⟩ := Option.isSome_iff_exists.1 h1
  have h2 := t.filled _ (look_mem hx)
  unfold versOf
  rw [hx]
  exact h2

theorem keys_of_vers {R : Rep} (t : Tied R) {k : ByteArray} (hk : versOf R.hist k ≠ []) : k ∈ R.keys := by
  rw [← memB_iff, t.keys]
  unfold versOf at hk
  cases hl : look R.hist k with
  | none => rw [hl] at hk; simp at hk
  | some x => rfl

/-- The keys of what has grown. -/
theorem grew_keys {R Rn : Rep} {ks : List ByteArray} {ver : ByteArray → Ver} (t : Tied R) (h : Grew R ks ver Rn) {k : ByteArray} (hk : k ∈ Rn.keys) : k ∈ ks ∨ k ∈ R.keys := by
  have h1 := vers_ne h.tied hk
  rw [h.vers] at h1
  cases hm : memB ks k with
  | true => exact .inl ((memB_iff _ _).1 hm)
  | false =>
    rw [hm] at h1
    exact .inr (keys_of_vers t (by simpa using h1))

theorem Inv.del {K : List ByteArray} {w w' : World} {R : Rep} {n : Int} (h : Inv K w R) (hs : StoreAt w' { R with works := del R.works n }) : Inv K w' { R with works := del R.works n } :=
  ⟨hs, h.good.del n, ⟨h.tied.rises, h.tied.keys, h.tied.filled⟩, h.pm, h.wm, h.kin, fun p hp => h.win p ((del_sublist _ _).subset hp)⟩

/-- Abort -/
theorem abort_s {K : List ByteArray} {O : Nat → Prop} {w : World} {b : Nat} {A : Abs} {n bg : Int} {ws : List (ByteArray × Ver)} (h : SAt K O w b A) (hn : look A.works n = some (bg, ws)) :
    Calls Try.prog 15 #[.pointer (some ⟨b, 0, none⟩), .int .i64 n] w fun e w' => e = .returned (.int .i64 0) ∧ SAt K O w' b (A.ended n) ∧ Keeps (fun k => ¬ O k) w w' := by
  obtain ⟨R, hi, rfl, rfl, hf⟩ := h
  obtain ⟨x, hx, rfl, rfl⟩ := abs_look hn
  refine (abort_some R n x w hi.st hx).mono ?_
  rintro e w' ⟨rfl, h1, h2⟩
  refine ⟨rfl, ⟨_, hi.del h1, rfl, ?_, fun k hk => hf k (fp_del.subset hk)⟩, keeps_off hf h2⟩
  simp only [Rep.abs, Abs.ended]
  rw [abs_del]
  rfl

/-- Commit of a work that has written nothing -/
theorem commit_nil {K : List ByteArray} {O : Nat → Prop} {w : World} {b : Nat} {A : Abs} {n bg : Int} (h : SAt K O w b A) (hn : look A.works n = some (bg, [])) :
    Calls Try.prog 13 #[.pointer (some ⟨b, 0, none⟩), .int .i64 n] w fun e w' => e = .returned (.tuple #[.int .i64 bg, .int .i64 0]) ∧ SAt K O w' b (A.ended n) ∧ Keeps (fun k => ¬ O k) w w' := by
  obtain ⟨R, hi, rfl, rfl, hf⟩ := h
  obtain ⟨x, hx, rfl, hw⟩ := abs_look hn
  refine (commit_empty R n x w hi.st hx hw).mono ?_
  rintro e w' ⟨rfl, h1, h2⟩
  refine ⟨rfl, ⟨_, hi.del h1, rfl, ?_, fun k hk => hf k (fp_del.subset hk)⟩, keeps_off hf h2⟩
  simp only [Rep.abs, Abs.ended]
  rw [abs_del]
  rfl

/-- Commit of one that has written: a clash, or the next state -/
theorem commit_s {K : List ByteArray} {O : Nat → Prop} {w : World} {b : Nat} {A : Abs} {n bg : Int} {ws : List (ByteArray × Ver)} (h : SAt K O w b A) (hO : ∀ k, O k → k < w.heap.size) (hK : K.length ≤ 30) (hn : look A.works n = some (bg, ws)) (hws : ws ≠ []) (hnow : A.now < 1000000000) :
    Calls Try.prog 13 #[.pointer (some ⟨b, 0, none⟩), .int .i64 n] w fun e w' =>
      (((∃ k ∈ ws.map (·.1), bg < lastOf (A.vers k)) ∧ e = .returned (.tuple #[.int .i64 0, .int .i64 4]) ∧ SAt K O w' b (A.ended n)) ∨
       ((∀ k ∈ ws.map (·.1), lastOf (A.vers k) ≤ bg) ∧ e = .returned (.tuple #[.int .i64 (A.now + 1), .int .i64 0]) ∧ SAt K O w' b (A.became n ws))) ∧ Keeps (fun k => ¬ O k) w w' := by
  obtain ⟨R, hi, rfl, rfl, hf⟩ := h
  obtain ⟨x, hx, rfl, rfl⟩ := abs_look hn
  have hnow' : R.now < 1000000000 := hnow
  have hkl := hi.keysLen
  have hxm := look_mem hx
  refine (commit_some R n x w hi.st hi.good hi.tied hx hws hnow' (by omega)).mono ?_
  rintro e w' ⟨ks, hr, hp, hc⟩
  have hmem : ∀ k, k ∈ ks ↔ k ∈ x.writes.map (·.1) := fun k => hp.mem_iff
  have hksK : ∀ k ∈ ks, k ∈ K ∧ keyB k = true ∧ valB ((look x.writes k).getD Ver.zero).value = true := fun k hk => by
    have hk' := (hmem k).1 hk
    obtain ⟨v, hv⟩ := Option.isSome_iff_exists.1 ((look_isSome x.writes k).2 hk')
    have hq := look_mem hv
    obtain ⟨q1, q2, _⟩ := hi.good.wkeys _ hxm _ hq
    exact ⟨hi.win _ hxm _ hq, q1, by rw [hv]; exact q2⟩
  rcases hc with ⟨⟨k, hk, hlt⟩, rfl, R0, h1, h2, h3, h4, h5⟩ | ⟨hle, rfl, Rn, h1, h2, h3, h4⟩
  · refine ⟨.inl ⟨⟨k, (hmem k).1 hk, hlt⟩, rfl, R0, ⟨h1, ?_, h2.tied, ?_, ?_, ?_, ?_⟩, ?_, ?_, fun k hk ho => ?_⟩, keeps_off hf h3⟩
    · have hs := h2.same
      have hg := (hi.good.del n).grew h2 (hist_nodup h1.past) R.now ⟨Int.le_refl _, hi.good.now.2⟩ (fun k hk => (by cases hk)) (fun k hk => (by cases hk))
      have e : { R0 with now := R.now } = R0 := by
        have hn' : R0.now = R.now := by rw [hs]
        rw [← hn']
      rw [e] at hg
      exact hg
    · rw [h2.same]; exact hi.pm
    · rw [h2.same]; exact hi.wm
    · intro k hk
      rcases grew_keys (R := { R with works := Go.Proofs.Ytfcocbcihhdbkaa.del R.works n }) ⟨hi.tied.rises, hi.tied.keys, hi.tied.filled⟩ h2 hk with h | h
      · cases h
      · exact hi.kin k h
    · have e : R0.works = Go.Proofs.Ytfcocbcihhdbkaa.del R.works n := by rw [h2.same]
      rw [e]
      exact fun p hp => hi.win p ((del_sublist _ _).subset hp)
    · rw [h2.same]
    · have e1 : R0.works = Go.Proofs.Ytfcocbcihhdbkaa.del R.works n := by rw [h2.same]
      have e2 : R0.now = R.now ∧ R0.floor = R.floor ∧ R0.begun = R.begun := by rw [h2.same]; exact ⟨rfl, rfl, rfl⟩
      have e3 : versOf R0.hist = versOf R.hist := by
        funext k
        rw [h2.vers]
        simp [memB]
      simp only [Rep.abs, Abs.ended, e1, e2.1, e2.2.1, e2.2.2, e3]
      rw [abs_del]
      rfl
    · rcases h4 k hk with h | h
      · exact hf k h ho
      · have := hO k ho
        omega
  · refine ⟨.inr ⟨fun k hk => hle k ((hmem k).2 hk), rfl, _, ⟨h1, ?_, ⟨h2.tied.rises, h2.tied.keys, h2.tied.filled⟩, ?_, ?_, ?_, ?_⟩, ?_, ?_, fun k hk ho => ?_⟩, keeps_off hf h3⟩
    · have hg := hi.good.grew h2 (hist_nodup h1.past) (R.now + 1) ⟨by omega, by omega⟩ (fun k hk => (hksK k hk).2.1) (fun k hk => ⟨(hksK k hk).2.2, rfl, by omega⟩)
      have hg2 := hg.del n
      have e : Rn.works = R.works := by rw [h2.same]
      rw [← e]
      exact hg2
    · show Rn.pm = none ∧ Rn.cm = none
      rw [h2.same]; exact hi.pm
    · show 1 ≤ Rn.begun → ∃ b0, Rn.wm = some b0
      rw [h2.same]; exact hi.wm
    · intro k hk
      rcases grew_keys hi.tied h2 hk with h | h
      · exact (hksK k h).1
      · exact hi.kin k h
    · exact fun p hp => hi.win p ((del_sublist _ _).subset hp)
    · show Rn.sb = R.sb
      rw [h2.same]
    · have e2 : Rn.floor = R.floor ∧ Rn.begun = R.begun := by rw [h2.same]; exact ⟨rfl, rfl⟩
      have e3 : versOf Rn.hist = fun k => if (look x.writes k).isSome then versOf R.hist k ++ [verOf x.writes (R.now + 1) k] else versOf R.hist k := by
        funext k
        rw [h2.vers, memB_perm hp]
      simp only [Rep.abs, Abs.became, e2.1, e2.2, e3]
      rw [abs_del]
      rfl
    · have e : Rn.works = R.works := by rw [h2.same]
      have hk' : k ∈ Rep.fp { Rn with works := Go.Proofs.Ytfcocbcihhdbkaa.del Rn.works n } := by rw [e]; exact hk
      rcases h4 k (fp_del.subset hk') with h | h
      · exact hf k h ho
      · have := hO k ho
        omega

/-- what Get answers -/
def Abs.get (A : Abs) (n : Int) (key : ByteArray) : ByteArray × Int :=
  match look A.works n with
  | none => (ByteArray.empty, 1)
  | some x =>
    if keyB key = true then
      if standsB (seeVer x.2 (A.vers key) x.1 key) = true then (((seeVer x.2 (A.vers key) x.1 key).getD Ver.zero).value, 0) else (ByteArray.empty, 1)
    else (ByteArray.empty, 2)

theorem get_s {K : List ByteArray} {O : Nat → Prop} {w : World} {b : Nat} {A : Abs} {n : Int} {key : ByteArray} (h : SAt K O w b A) (hk : key.size ≤ maxLen) :
    Calls Try.prog 14 #[.pointer (some ⟨b, 0, none⟩), .int .i64 n, .string key] w fun e w' => e = .returned (.tuple #[.string (A.get n key).1, .int .i64 (A.get n key).2]) ∧ SAt K O w' b A ∧ Keeps (fun _ => False) w w' := by
  obtain ⟨R, hi, rfl, rfl, hf⟩ := h
  refine (get_any R n key w hi.st hi.good hk).mono ?_
  rintro e w' ⟨rfl, h1⟩
  have e : getAns R n key = R.abs.get n key := by
    unfold getAns Abs.get
    have e : R.abs.works = R.works.map (fun p => (p.1, (fun y : WkR => (y.began, y.writes)) p.2)) := rfl
    rw [e, look_map (fun y : WkR => (y.began, y.writes))]
    cases look R.works n <;> rfl
  rw [e]
  exact ⟨rfl, ⟨R, hi.kept h1 (fun _ _ h => h), rfl, rfl, hf⟩, h1⟩

theorem look_s {K : List ByteArray} {O : Nat → Prop} {w : World} {b : Nat} {A : Abs} (h : SAt K O w b A) (hb : 1 ≤ A.begun) :
    Calls Try.prog 12 #[.pointer (some ⟨b, 0, none⟩)] w fun e w' => (∃ c : Int, e = .returned (.agg #[.int .i64 A.now, .int .i64 A.floor, .int .i64 A.works.length, .int .i64 0, .int .i64 c, .int .i64 0])) ∧ SAt K O w' b A ∧ Keeps (fun _ => False) w w' := by
  obtain ⟨R, hi, rfl, rfl, hf⟩ := h
  have _ := hb
  refine (look_any R w hi.st hi.pm.1 hi.pm.2).mono ?_
  rintro e w' ⟨⟨c, rfl⟩, h1⟩
  exact ⟨⟨c, by simp [Rep.abs]⟩, ⟨R, hi.kept h1 (fun _ _ h => h), rfl, rfl, hf⟩, h1⟩

end Go.Proofs.Ytfcocbcihhdbkaa

/- The twelve keys; what is so of a store as it is told. -/
namespace Go.Proofs.Ytfcocbcihhdbkaa
open Go.RowKit Go.Shelf

/-- the twelve keys -/
def K12 : List ByteArray := (List.range 12).map (fun k : Nat => keyZ (k : Int))

theorem K12_len : K12.length ≤ 30 := by simp [K12]

theorem fin12 {P : Int → Prop} (h : ∀ k : Fin 12, P (k.val : Int)) {k : Int} (h0 : 0 ≤ k) (h1 : k < 12) : P k := by
  have := h ⟨k.toNat, by omega⟩
  simp only at this
  have e : (k.toNat : Int) = k := by omega
  rwa [e] at this

theorem key_mem {k : Int} (h0 : 0 ≤ k) (h1 : k < 12) : keyZ k ∈ K12 :=
  fin12 (P := fun k => keyZ k ∈ K12) (fun k => List.mem_map.2 ⟨k.val, List.mem_range.2 k.isLt, rfl⟩) h0 h1

theorem key_ok {k : Int} (h0 : 0 ≤ k) (h1 : k < 12) : keyB (keyZ k) = true :=
  fin12 (P := fun k => keyB (keyZ k) = true) (by decide +kernel) h0 h1

theorem key_inj {j k : Int} (h0 : 0 ≤ j) (h1 : j < 12) (h2 : 0 ≤ k) (h3 : k < 12) (h : keyZ j = keyZ k) : j = k := by
  have hall : ∀ a b : Fin 12, keyZ (a.val : Int) = keyZ (b.val : Int) → a = b := by decide +kernel
  have := hall ⟨j.toNat, by omega⟩ ⟨k.toNat, by omega⟩ (by
    have e1 : ((j.toNat : Nat) : Int) = j := by omega
    have e2 : ((k.toNat : Nat) : Int) = k := by omega
    simp only [e1, e2]
    exact h)
  have := congrArg Fin.val this
  simp only at this
  omega

theorem key_of_mem {x : ByteArray} (h : x ∈ K12) : ∃ k : Nat, k < 12 ∧ x = keyZ k := by
  obtain ⟨k, hk, rfl⟩ := List.mem_map.1 h
  exact ⟨k, List.mem_range.1 hk, rfl⟩

theorem key_size {k : Int} (h0 : 0 ≤ k) (h1 : k < 12) : (keyZ k).size ≤ maxLen := by
  have := key_ok h0 h1
  simp [keyB] at this
  unfold maxLen
  omega

theorem cut_ok (s : ByteArray) : valB (s.extract 0 40) = true := by
  simp [valB, ByteArray.size_extract]
  omega

theorem empty_ok : valB ByteArray.empty = true := by decide +kernel

theorem pick_lt (c : Int) {n : Int} (hn : 1 ≤ n) : 0 ≤ pickZ c n ∧ pickZ c n < n := by
  unfold pickZ
  split
  · exact ⟨Int.emod_nonneg _ (by omega), Int.emod_lt_of_pos _ (by omega)⟩
  · exact ⟨Int.emod_nonneg _ (by omega), Int.emod_lt_of_pos _ (by omega)⟩

theorem look_snoc {α β : Type} [DecidableEq α] : ∀ {l : List (α × β)} {n : α} (x : β), look l n = none → look (l ++ [(n, x)]) n = some x
  | [], n, x, _ => by simp [look]
  | (a, y) :: l, n, x, h => by
    unfold look at h
    simp only [List.cons_append]
    unfold look
    by_cases e : a = n
    · rw [if_pos e] at h; cases h
    · rw [if_neg e] at h ⊢
      exact look_snoc x h

theorem put_snoc {α β : Type} [DecidableEq α] : ∀ {l : List (α × β)} {n : α} (x y : β), look l n = none → put (l ++ [(n, x)]) n y = l ++ [(n, y)]
  | [], n, x, y, _ => by simp [put]
  | (a, z) :: l, n, x, y, h => by
    unfold look at h
    simp only [List.cons_append]
    unfold put
    by_cases e : a = n
    · rw [if_pos e] at h; cases h
    · rw [if_neg e] at h ⊢
      rw [put_snoc x y h]

theorem del_snoc {α β : Type} [DecidableEq α] : ∀ {l : List (α × β)} {n : α} (x : β), look l n = none → del (l ++ [(n, x)]) n = l
  | [], n, x, _ => by simp [del]
  | (a, z) :: l, n, x, h => by
    unfold look at h
    simp only [List.cons_append]
    unfold del
    by_cases e : a = n
    · rw [if_pos e] at h; cases h
    · rw [if_neg e] at h ⊢
      rw [del_snoc x h]

/-- What is so of a store as it is told. -/
structure Sound (A : Abs) : Prop where
  now : 0 ≤ A.now ∧ A.now ≤ 1000000000
  begun : 0 ≤ A.begun
  fresh : look A.works (A.begun + 1) = none
  nodup : (A.works.map (·.1)).Nodup
  numbers : ∀ p ∈ A.works, p.1 ≤ A.begun
  began : ∀ p ∈ A.works, 0 ≤ p.2.1 ∧ p.2.1 ≤ A.now
  wnodup : ∀ p ∈ A.works, (p.2.2.map (·.1)).Nodup
  rising : ∀ k, Rising (A.vers k)
  states : ∀ k, ∀ v ∈ A.vers k, 0 ≤ v.state ∧ v.state ≤ A.now

theorem SAt.sound {K : List ByteArray} {O : Nat → Prop} {w : World} {b : Nat} {A : Abs} (h : SAt K O w b A) : Sound A := by
  obtain ⟨R, hi, rfl, rfl, hf⟩ := h
  have hn := works_nodup hi.st
  have hnum : ∀ p ∈ R.abs.works, p.1 ≤ R.begun := fun p hp => by
    obtain ⟨q, hq, rfl⟩ := List.mem_map.1 hp
    exact (hi.good.numbers q hq).2
  refine ⟨hi.good.now, hi.good.begun.1, look_none.2 (fun p hp e => ?_), ?_, hnum, fun p hp => ?_, fun p hp => ?_, fun k => (base_vers hi.good k).1, fun k v hv => ((base_vers hi.good k).2.1 v hv).1⟩
  · have h1 := hnum p hp
    have h2 : p.1 = R.begun + 1 := e
    omega
  · simpa [Rep.abs, List.map_map, Function.comp_def] using hn
  · obtain ⟨q, hq, rfl⟩ := List.mem_map.1 hp
    exact hi.good.began q hq
  · obtain ⟨q, hq, rfl⟩ := List.mem_map.1 hp
    exact writes_nodup hi.st (n := q.1) (x := q.2) hq

theorem last_le {vs : List Ver} {now : Int} (h0 : 0 ≤ now) (h : ∀ v ∈ vs, 0 ≤ v.state ∧ v.state ≤ now) : lastOf vs ≤ now := by
  unfold lastOf
  cases hl : vs.getLast? with
  | none => simpa using h0
  | some v =>
    have := h v (List.mem_of_getLast? hl)
    simpa using this.2

theorem Sound.last {A : Abs} (h : Sound A) (k : ByteArray) : lastOf (A.vers k) ≤ A.now := last_le h.now.1 (h.states k)

theorem last_snoc (vs : List Ver) (v : Ver) : lastOf (vs ++ [v]) = v.state := by simp [lastOf]

/-- the next state, by one key -/
def Abs.next (A : Abs) (key : ByteArray) (val : ByteArray) (gone : Bool) : Abs :=
  { A with now := A.now + 1, begun := A.begun + 1, vers := fun k => if k = key then A.vers k ++ [⟨A.now + 1, val, gone⟩] else A.vers k }

theorem next_eq {A : Abs} (h : Sound A) (key val : ByteArray) (gone : Bool) :
    (A.opened.wrote (A.begun + 1) A.now [] key ⟨0, val, gone⟩).became (A.begun + 1) (put [] key ⟨0, val, gone⟩) = A.next key val gone := by
  have e1 : put (A.works ++ [(A.begun + 1, (A.now, []))]) (A.begun + 1) (A.now, put [] key (⟨0, val, gone⟩ : Ver)) = A.works ++ [(A.begun + 1, (A.now, put [] key ⟨0, val, gone⟩))] := put_snoc _ _ h.fresh
  have e2 := del_snoc (A.now, put [] key (⟨0, val, gone⟩ : Ver)) h.fresh
  simp only [Abs.became, Abs.wrote, Abs.opened, Abs.next, e1, e2]
  congr 1
  funext k
  by_cases e : key = k
  · subst e
    simp [put, look, verOf]
  · have e' : ¬ k = key := fun h => e h.symm
    simp [put, look, e, e']

end Go.Proofs.Ytfcocbcihhdbkaa

/- Two rising lists of keys, gone through as one: least, behind. -/
namespace Go.Proofs.Ytfcocbcihhdbkaa
open Go.RowKit Go.Shelf

/-- a slice of strings, wherever it begins, in a block of G -/
def Seg (G : List Nat) (w : World) (v : Value) (xs : List ByteArray) : Prop :=
  (xs = [] ∧ ∃ oa cap, v = .slice oa 0 cap) ∨ ∃ g off cap, g ∈ G ∧ v = .slice (some ⟨g, off, none⟩) xs.length cap ∧ xs.length ≤ cap ∧ cap ≤ maxLen ∧ ∀ i (h : i < xs.length), w.cell? ⟨g, off + i, none⟩ = some (.string xs[i])

def behindL (xs : List ByteArray) (key : ByteArray) : List ByteArray :=
  match xs with
  | [] => []
  | x :: r => if x = key then r else x :: r

/-- the rest of a slice behind its first, if that is to go -/
def behindV (v : Value) (hit : Bool) : Value :=
  match v, hit with
  | .slice (some ⟨g, off, none⟩) (n + 1) cap, true => if cap = 1 then .slice (some ⟨g, off, none⟩) n 0 else .slice (some ⟨g, off + 1, none⟩) n (cap - 1)
  | v, _ => v

def hitB (xs : List ByteArray) (key : ByteArray) : Bool :=
  match xs with
  | [] => false
  | x :: _ => decide (x = key)

def leastL (a b : List ByteArray) : ByteArray :=
  match a, b with
  | [], [] => ByteArray.empty
  | [], y :: _ => y
  | x :: _, [] => x
  | x :: _, y :: _ => if ltK y x = true then y else x

theorem Seg.kept {G : List Nat} {w w' : World} {v : Value} {xs : List ByteArray} (h : Seg G w v xs) (hk : ∀ k ∈ G, w'.heap[k]? = w.heap[k]?) : Seg G w' v xs := by
  rcases h with h | ⟨g, off, cap, hG, h1, h2, h3, h4⟩
  · exact .inl h
  · exact .inr ⟨g, off, cap, hG, h1, h2, h3, fun i hi => by rw [← h4 i hi]; simp only [World.cell?, hk g hG]⟩

theorem Seg.behind {G : List Nat} {w : World} {v : Value} {xs : List ByteArray} (h : Seg G w v xs) (key : ByteArray) : Seg G w (behindV v (hitB xs key)) (behindL xs key) := by
  rcases h with ⟨rfl, oa, cap, rfl⟩ | ⟨g, off, cap, hG, rfl, h1, h2, h3⟩
  · exact .inl ⟨rfl, oa, cap, by simp [hitB, behindV]⟩
  · cases xs with
    | nil => exact .inl ⟨rfl, some ⟨g, off, none⟩, cap, by simp [hitB, behindV]⟩
    | cons x r =>
      by_cases hx : x = key
      · have e1 : behindL (x :: r) key = r := by simp [behindL, hx]
        have e2 : hitB (x :: r) key = true := by simp [hitB, hx]
        rw [e1, e2]
        simp only [List.length_cons, behindV] at h1 ⊢
        split
        · exact .inl ⟨List.eq_nil_of_length_eq_zero (by omega), _, 0, by rw [show r.length = 0 by omega]⟩
        · refine .inr ⟨g, off + 1, cap - 1, hG, rfl, by omega, by omega, fun i hi => ?_⟩
          have := h3 (i + 1) (by simpa using hi)
          rw [show off + 1 + i = off + (i + 1) by omega]
          simpa using this
      · have e1 : behindL (x :: r) key = x :: r := by simp [behindL, hx]
        have e2 : hitB (x :: r) key = false := by simp [hitB, hx]
        rw [e1, e2]
        exact .inr ⟨g, off, cap, hG, rfl, h1, h2, h3⟩

theorem Seg.form {G : List Nat} {w : World} {v : Value} {xs : List ByteArray} (h : Seg G w v xs) : ∃ oa cap, v = .slice oa xs.length cap := by
  rcases h with ⟨rfl, oa, cap, rfl⟩ | ⟨g, off, cap, _, rfl, _⟩
  · exact ⟨oa, cap, rfl⟩
  · exact ⟨_, cap, rfl⟩

theorem Seg.head {G : List Nat} {w : World} {oa : Option Addr} {cap : Nat} {x : ByteArray} {r : List ByteArray} (h : Seg G w (.slice oa (x :: r).length cap) (x :: r)) : ∃ g off, oa = some ⟨g, off, none⟩ ∧ w.cell? ⟨g, off, none⟩ = some (.string x) := by
  rcases h with ⟨h, _⟩ | ⟨g, off, cap', _, e, _, _, h3⟩
  · cases h
  · simp at e
    exact ⟨g, off, e.1, h3 0 (by simp)⟩

set_option maxRecDepth 100000 in
set_option maxHeartbeats 400000 in
theorem behind_any {G : List Nat} (v : Value) (key : ByteArray) (xs : List ByteArray) (w : World) (h : Seg G w v xs) :
    Calls Try.prog 56 #[v, .string key] w fun e w' => e = .returned (behindV v (hitB xs key)) ∧ w' = w := by
  rcases h with ⟨rfl, oa, cap, rfl⟩ | ⟨g, off, cap, _, rfl, h1, h2, h3⟩
  · have e : behindV (.slice oa 0 cap) (hitB [] key) = .slice oa 0 cap := by simp [hitB, behindV]
    rw [e]
    clear e
    go_enter Try.func56, Try.ntmps56
    go_wp2
    go_ret
    exact ⟨rfl, rfl⟩
  · cases xs with
    | nil =>
      have e : behindV (.slice (some ⟨g, off, none⟩) ([] : List ByteArray).length cap) (hitB [] key) = .slice (some ⟨g, off, none⟩) 0 cap := by simp [hitB, behindV]
      rw [e]
      clear e
      go_enter Try.func56, Try.ntmps56
      go_wp2
      go_ret
      exact ⟨rfl, rfl⟩
    | cons x r =>
      have c0 : w.cell? ⟨g, off, none⟩ = some (.string x) := h3 0 (by simp)
      unfold maxLen at h2
      simp only [List.length_cons] at h1 ⊢
      clear h3
      by_cases hx : x = key
      · have e2 : hitB (x :: r) key = true := by simp [hitB, hx]
        have hxb : (x.toList == key.toList) = true := (Lib.bytes_beq_iff _ _).2 hx
        rw [e2]
        simp only [behindV]
        clear hx e2
        by_cases hc1 : cap = 1
        · subst hc1
          obtain rfl : r = [] := List.eq_nil_of_length_eq_zero (by omega)
          simp only [if_true, List.length_nil]
          go_enter Try.func56, Try.ntmps56
          go_wp2
          go_ret
          exact ⟨rfl, rfl⟩
        · rw [if_neg hc1]
          go_enter Try.func56, Try.ntmps56
          go_wp2
          go_ret
          exact ⟨rfl, rfl⟩
      · have e2 : hitB (x :: r) key = false := by simp [hitB, hx]
        have hxb : (x.toList == key.toList) = false := (Lib.bytes_beq_false_iff _ _).2 hx
        rw [e2]
        simp only [behindV]
        clear hx e2
        go_enter Try.func56, Try.ntmps56
        go_wp2
        go_ret
        exact ⟨rfl, rfl⟩

/-- min of two keys -/
theorem min_str (x y : ByteArray) (W : World) : (Builtin.min_ #[9, 9] 9 #[.string x, .string y]).run Try.prog W = .ok (.string (if ltK y x = true then y else x)) W := by
  cases h : ltK y x with
  | true =>
    simp [Builtin.min_, Builtin.min2, Op.stringOp, asBool]
    rintro (h1 | h1)
    · have h2 := ltK_trans (a := y) (b := x) (c := y) h h1
      rw [ltK_irrefl] at h2
      cases h2
    · exact (Lib.bytes_beq_iff x y).1 (by simp [h1])
  | false =>
    simp [Builtin.min_, Builtin.min2, Op.stringOp, asBool]
    intro h1 _
    exact ltK_total h h1

set_option maxRecDepth 100000 in
set_option maxHeartbeats 400000 in
theorem least_any {G : List Nat} (va vb : Value) (a b : List ByteArray) (w : World) (ha : Seg G w va a) (hb : Seg G w vb b) (hne : a ≠ [] ∨ b ≠ []) :
    Calls Try.prog 55 #[va, vb] w fun e w' => e = .returned (.string (leastL a b)) ∧ Keeps (fun _ => False) w w' := by
  obtain ⟨oa, ca, rfl⟩ := ha.form
  obtain ⟨ob, cb, rfl⟩ := hb.form
  cases a with
  | nil =>
    cases b with
    | nil => simp at hne
    | cons y r =>
      obtain ⟨g, off, rfl, c0⟩ := hb.head
      clear ha hb hne
      have e : leastL [] (y :: r) = y := rfl
      rw [e]
      clear e
      go_enter Try.func55, Try.ntmps55
      go_wp2
      go_ret
      exact ⟨rfl, Keeps.refl _ _⟩
  | cons x q =>
    obtain ⟨ga, offa, rfl, c0⟩ := ha.head
    cases b with
    | nil =>
      clear ha hb hne
      have e : leastL (x :: q) [] = x := rfl
      rw [e]
      clear e
      go_enter Try.func55, Try.ntmps55
      go_wp2
      go_ret
      exact ⟨rfl, Keeps.refl _ _⟩
    | cons y r =>
      obtain ⟨gb, offb, rfl, d0⟩ := hb.head
      clear ha hb hne
      have e : leastL (x :: q) (y :: r) = if ltK y x = true then y else x := rfl
      rw [e]
      clear e
      have hmin := min_str x y w.drew
      generalize (if ltK y x = true then y else x) = m at hmin ⊢
      go_enter Try.func55, Try.ntmps55
      go_wp2
      go_region
      go_wp2
      go_ret
      exact ⟨rfl, Keeps.drew _ _⟩

end Go.Proofs.Ytfcocbcihhdbkaa

/- A range over an iterator that keeps its place in cells of its own, whose rounds all go on. -/
namespace Go.Proofs.Ytfcocbcihhdbkaa
open Go.RowKit Go.Shelf

section
variable {F : Fence} {n : Nat} {P : Program}

/-- The iterator calls yield for each of xs with S xs, in order, if every round goes on; it may write as C allows, a round keeps Kp. -/
def SeqAll {α : Type} (F : Fence) (n : Nat) (P : Program) (g : Nat) (lb : Array Value) (encs : α → Array Value) (C Kp : World → World → Prop) (S : List α → Prop) (N : Nat) (w : World) : Prop :=
  ∀ (l : Nat) (J : List α → World → Prop) (W : World), Keeps (fun _ => False) w W → (∀ pre A B, C A B → J pre A → J pre B) →
    (∀ pre x W1, J pre W1 → pre.length < N → YieldAt F (n - 1) P l (encs x) W1 fun e W' => e = .returned (.bool true) ∧ J (pre ++ [x]) W' ∧ Kp W1 W') →
    J [] W → CallsIn F n P g (#[.func (.yield l) #[] #[]] ++ lb) W fun e W' => (∃ v, e = .returned v) ∧ ∃ xs, S xs ∧ J xs W'

/-- what a round leaves that goes on -/
def goesOn {α : Type} (B : Nat) (Kp : World → World → Prop) (I : List α → World → Prop) (xs : List α) (W : World) : Exit → Act → World → Prop
  | .normal, _, W' => KeepsFrom B W W' ∧ Kp W W' ∧ I xs W'
  | _, _, _ => False

theorem wpIn_range_all {α : Type} {g : Operand} {ps : Array Tmp} {assign body : Code} {Q : Exit → Act → World → Prop} {a : Act} {w : World} (hro : F.round = none) (h1 : 1 ≤ n) {gf : Nat} {lb : Array Value}
    (hg : a.eval g = .func (.func gf) #[] lb) (hFg : F.fn gf) (eg : ∀ args w, (callFunc gf args).run P w = .ok (.enter gf args) w) {encs : α → Array Value} {C Kp : World → World → Prop} {S : List α → Prop} {N : Nat}
    (hseq : SeqAll F (n - 1) P gf lb encs C Kp S N w) (hCs : ∀ A B k, C A B → w.heap.size ≤ k → (∃ o, A.heap[k]? = some o ∧ o.isCells = false) → B.heap[k]? = A.heap[k]?)
    (hKt : ∀ {A B D : World}, Kp A B → Kp B D → Kp A D) (hKb : ∀ (W : World) (l : Nat) (o' : Obj), w.heap.size ≤ l → Kp W (W.putObj l o')) (hps : ∀ x, (encs x).size = ps.size)
    (I : List α → World → Prop) (hI : OwnFrom w.heap.size I) (hIC : ∀ pre A B, C A B → I pre A → I pre B) (h0 : I [] w) (a₁ : α → Act)
    (hassign : ∀ (l : Nat) (x : α) (W : World) (K : Act → World → Prop), K (a₁ x) W → assign.wpIn (F.inRound l) (n - 1 - 1) P (Exit.then K (fun _ _ _ => False)) { tmps := (ps.zip (encs x)).foldl (fun t (p, v) => t.setIfInBounds p v) a.tmps, defers := [] } W)
    (hbody : ∀ (l : Nat) (pre : List α) (x : α) (W : World), I pre W → pre.length < N → body.wpIn (F.inRound l) (n - 1 - 1) P (goesOn w.heap.size Kp I (pre ++ [x]) W) (a₁ x) W)
    (hdone : ∀ (D : Nat) (xs : List α) (W : World), w.heap.size ≤ D → S xs → I xs W → W.heap[D]? = some (.deferred (some [])) → Q .normal { a with defers := { target := .collected D, args := #[] } :: a.defers } W) :
    (Code.rangeFunc g ps assign body).wpIn F n P Q a w := by
  refine wpIn_rangeFunc ?_
  intro fn hfn
  rw [hro]
  obtain ⟨rec, hrec⟩ : ∃ rec : LoopState → Option Code → Loop, rec = fun st pe => { state := st, pending := pe, fn, tmps := a.tmps, params := ps, assign, body, defers := w.heap.size } := ⟨_, rfl⟩
  obtain ⟨W1, hW1⟩ : ∃ W1, (w.alloc (.deferred (some []))).alloc (.loop (rec .ready none)) = W1 := ⟨_, rfl⟩
  have hkw : Keeps (fun _ => False) w W1 := by rw [← hW1]; exact ((Keeps.refl _ w).al _).al _
  have hL1 : W1.heap[w.heap.size + 1]? = some (.loop (rec .ready none)) := by
    rw [← hW1]; have := heap_new (w.alloc (.deferred (some []))) (.loop (rec .ready none)); rwa [World.size_alloc] at this
  have hD1 : W1.heap[w.heap.size]? = some (.deferred (some [])) := by
    rw [← hW1]; exact (Below.heap_alloc _ _ _ (by simp)).trans (heap_new w _)
  have hI1 : I [] W1 := by rw [← hW1]; exact hI.alloc _ (hI.alloc _ h0)
  refine ⟨w.heap.size + 1, [{ target := .collected w.heap.size, args := #[] }], W1, { target := .fn (.func gf) lb, args := #[.func (.yield (w.heap.size + 1)) #[] #[]] }, W1, gf,
    #[.func (.yield (w.heap.size + 1)) #[] #[]] ++ lb, W1, ?_, ?_, ?_, ?_, fun _ => h1, ?_⟩
  · rw [← hW1, hrec]; exact run_enterLoop_outer _ _ _ _ _
  · simp only [resolve, hg]
    simp [go_sem]
  · intro f' hf'; simp [Target.leads] at hf'; subst hf'; exact hFg
  · simp [invoke, go_sem, eg]
  · refine (hseq (w.heap.size + 1) (fun pre W => I pre W ∧ W.heap[w.heap.size + 1]? = some (.loop (rec .ready none)) ∧ W.heap[w.heap.size]? = some (.deferred (some []))) W1 hkw
      (fun pre A B hC hJ => ⟨hIC pre A B hC hJ.1, (hCs A B _ hC (by omega) ⟨_, hJ.2.1, rfl⟩).trans hJ.2.1, (hCs A B _ hC (Nat.le_refl _) ⟨_, hJ.2.2, rfl⟩).trans hJ.2.2⟩) ?_ ⟨hI1, hL1, hD1⟩).mono ?_
    · rintro pre x W ⟨hi, hl, hk⟩ hlen
      have hlt : w.heap.size + 1 < W.heap.size := (Array.getElem?_eq_some_iff.1 hl).1
      have hy := run_yield (P := P) (args := encs x) hl (by rw [hrec]; exact hps x)
      rw [hrec] at hy
      refine ⟨fn, _, assign, body, hy, roundIn_of_wpIn hfn (hassign _ x W _ ⟨_, run_beginRound hl (by rw [hrec]), ?_⟩)⟩
      have hl2 : (W.putObj (w.heap.size + 1) (.loop { rec .ready none with state := .busy })).heap[w.heap.size + 1]? = some (.loop { rec .ready none with state := .busy }) := World.putObj_heap_same hlt
      have hk2 : (W.putObj (w.heap.size + 1) (.loop { rec .ready none with state := .busy })).heap[w.heap.size]? = some (.deferred (some [])) := (World.putObj_heap_other (by omega)).trans hk
      refine wpIn_mono (hbody _ pre x _ (hI.putObj _ hi (by omega) hl rfl) hlen) ?_
      rintro e a3 W3 hp
      cases e with
      | normal =>
        obtain ⟨hk3, hkp3, hi3⟩ := hp
        have hl3 := hk3.same _ _ (by omega) hl2 rfl
        have hr := run_endRound (P := P) none hl3
        have hl3' : W3.heap[w.heap.size + 1]? = some (.loop { rec .ready none with state := .busy }) := hl3
        rw [hrec] at hr
        refine ⟨_, _, hr, rfl, ⟨hI.putObj _ hi3 (by omega) hl3' rfl, ?_, ?_⟩, hKt (hKt (hKb _ _ _ (by omega)) hkp3) (hKb _ _ _ (by omega))⟩
        · rw [hrec]; exact World.putObj_heap_same (Array.getElem?_eq_some_iff.1 hl3).1
        · exact (World.putObj_heap_other (by omega)).trans (hk3.same _ _ (Nat.le_refl _) hk2 rfl)
      | ret => exact hp.elim
      | exit id => exact hp.elim
      | goto t => exact hp.elim
      | panic ch => exact hp.elim
      | outgrown => exact hp.elim
    · rintro e W2 ⟨⟨v, rfl⟩, xs, hS, hi, hl, hk⟩
      exact ⟨none, _, by have := run_endLoop (P := P) hl (by rw [hrec]; simp); rw [hrec] at this; exact this, hdone _ xs _ (Nat.le_refl _) hS (hI.putObj _ hi (by omega) hl rfl) ((World.putObj_heap_other (by omega)).trans hk)⟩

end

end Go.Proofs.Ytfcocbcihhdbkaa

/- merged: two rising lists of keys as one. -/
namespace Go.Proofs.Ytfcocbcihhdbkaa
open Go.RowKit Go.Shelf

/-- what has come, and what is left of both -/
structure MergeAt (a b a' b' pre : List ByteArray) : Prop where
  come : Rises pre
  ra : Rises a'
  rb : Rises b'
  below : ∀ k ∈ pre, ∀ x, (x ∈ a' ∨ x ∈ b') → ltK k x = true
  all : ∀ k, (k ∈ pre ∨ k ∈ a' ∨ k ∈ b') ↔ (k ∈ a ∨ k ∈ b)
  len : pre.length + (a'.length + b'.length) ≤ a.length + b.length

theorem rises_cons {x : ByteArray} {r : List ByteArray} (h : Rises (x :: r)) : (∀ y ∈ r, ltK x y = true) ∧ Rises r := List.pairwise_cons.1 h

/-- the first of both is not above the others -/
theorem least_le {a b : List ByteArray} (ha : Rises a) (hb : Rises b) (hne : a ≠ [] ∨ b ≠ []) : (leastL a b ∈ a ∨ leastL a b ∈ b) ∧ (∀ x, (x ∈ a ∨ x ∈ b) → x = leastL a b ∨ ltK (leastL a b) x = true) := by
  cases a with
  | nil =>
    cases b with
    | nil => simp at hne
    | cons y r =>
      refine ⟨.inr (by simp [leastL]), fun x hx => ?_⟩
      simp only [leastL]
      rcases hx with hx | hx
      · cases hx
      · rcases List.mem_cons.1 hx with rfl | hx
        · exact .inl rfl
        · exact .inr ((rises_cons hb).1 x hx)
  | cons z q =>
    cases b with
    | nil =>
      refine ⟨.inl (by simp [leastL]), fun x hx => ?_⟩
      simp only [leastL]
      rcases hx with hx | hx
      · rcases List.mem_cons.1 hx with rfl | hx
        · exact .inl rfl
        · exact .inr ((rises_cons ha).1 x hx)
      · cases hx
    | cons y r =>
      have hA := (rises_cons ha).1
      have hB := (rises_cons hb).1
      simp only [leastL]
      cases hlt : ltK y z with
      | true =>
        simp only [if_true]
        refine ⟨.inr (by simp), fun x hx => ?_⟩
        rcases hx with hx | hx
        · rcases List.mem_cons.1 hx with rfl | hx
          · exact .inr hlt
          · exact .inr (ltK_trans hlt (hA x hx))
        · rcases List.mem_cons.1 hx with rfl | hx
          · exact .inl rfl
          · exact .inr (hB x hx)
      | false =>
        simp only [Bool.false_eq_true, if_false]
        refine ⟨.inl (by simp), fun x hx => ?_⟩
        rcases hx with hx | hx
        · rcases List.mem_cons.1 hx with rfl | hx
          · exact .inl rfl
          · exact .inr (hA x hx)
        · have hzy : y = z ∨ ltK z y = true := by
            cases h2 : ltK z y with
            | true => exact .inr rfl
            | false => exact .inl (ltK_total hlt h2)
          rcases List.mem_cons.1 hx with rfl | hx
          · exact hzy
          · rcases hzy with rfl | h2
            · exact .inr (hB x hx)
            · exact .inr (ltK_trans h2 (hB x hx))

/-- what is left of a rising list behind its first, if that is the key -/
theorem behind_mem {a : List ByteArray} {k : ByteArray} (ha : Rises a) (hle : ∀ x ∈ a, x = k ∨ ltK k x = true) : Rises (behindL a k) ∧ (∀ x, x ∈ behindL a k ↔ x ∈ a ∧ x ≠ k) := by
  cases a with
  | nil => exact ⟨ha, fun x => by simp [behindL]⟩
  | cons z q =>
    obtain ⟨h1, h2⟩ := rises_cons ha
    by_cases e : z = k
    · subst e
      have e1 : behindL (z :: q) z = q := by simp [behindL]
      rw [e1]
      refine ⟨h2, fun x => ⟨fun hx => ⟨List.mem_cons_of_mem _ hx, fun e => ?_⟩, fun hx => ?_⟩⟩
      · have := h1 x hx
        rw [e, ltK_irrefl] at this
        cases this
      · rcases List.mem_cons.1 hx.1 with e | h
        · exact absurd e hx.2
        · exact h
    · have e1 : behindL (z :: q) k = z :: q := by simp [behindL, e]
      rw [e1]
      refine ⟨ha, fun x => ⟨fun hx => ⟨hx, fun ex => ?_⟩, fun hx => hx.1⟩⟩
      subst ex
      rcases List.mem_cons.1 hx with ex | h
      · exact e ex.symm
      · have h3 := h1 x h
        rcases hle z (by simp) with ez | h4
        · exact e ez
        · have := ltK_trans h3 h4
          rw [ltK_irrefl] at this
          cases this

theorem behind_len (a : List ByteArray) (k : ByteArray) : (behindL a k).length ≤ a.length := by
  cases a with
  | nil => simp [behindL]
  | cons z q => by_cases e : z = k <;> simp [behindL, e]

theorem merge_less (a b : List ByteArray) (hne : a ≠ [] ∨ b ≠ []) : (behindL a (leastL a b)).length + (behindL b (leastL a b)).length < a.length + b.length := by
  cases a with
  | nil =>
    cases b with
    | nil => simp at hne
    | cons y r => simp [behindL, leastL]
  | cons z q =>
    cases b with
    | nil => simp [behindL, leastL]
    | cons y r =>
      by_cases h : ltK y z = true
      · have e : leastL (z :: q) (y :: r) = y := by simp [leastL, h]
        rw [e]
        have h1 := behind_len (z :: q) y
        have e2 : behindL (y :: r) y = r := by simp [behindL]
        rw [e2]
        simp only [List.length_cons] at h1 ⊢
        omega
      · have e : leastL (z :: q) (y :: r) = z := by simp [leastL, h]
        rw [e]
        have h1 := behind_len (y :: r) z
        have e2 : behindL (z :: q) z = q := by simp [behindL]
        rw [e2]
        simp only [List.length_cons] at h1 ⊢
        omega

theorem MergeAt.step {a b a' b' pre : List ByteArray} (h : MergeAt a b a' b' pre) (hne : a' ≠ [] ∨ b' ≠ []) : MergeAt a b (behindL a' (leastL a' b')) (behindL b' (leastL a' b')) (pre ++ [leastL a' b']) := by
  obtain ⟨h1, h2⟩ := least_le h.ra h.rb hne
  obtain ⟨pa, qa⟩ := behind_mem h.ra (fun x hx => h2 x (.inl hx))
  obtain ⟨pb, qb⟩ := behind_mem h.rb (fun x hx => h2 x (.inr hx))
  refine ⟨?_, pa, pb, fun k hk x hx => ?_, fun k => ?_, ?_⟩
  · unfold Rises
    rw [List.pairwise_append]
    refine ⟨h.come, List.pairwise_singleton _ _, fun x hx y hy => ?_⟩
    have ey : y = leastL a' b' := by simpa using hy
    rw [ey]
    exact h.below x hx _ h1
  · have hx' : (x ∈ a' ∨ x ∈ b') ∧ x ≠ leastL a' b' := by
      rcases hx with hx | hx
      · exact ⟨.inl ((qa x).1 hx).1, ((qa x).1 hx).2⟩
      · exact ⟨.inr ((qb x).1 hx).1, ((qb x).1 hx).2⟩
    rcases List.mem_append.1 hk with hk | hk
    · exact h.below k hk x hx'.1
    · have ek : k = leastL a' b' := by simpa using hk
      rcases h2 x hx'.1 with e | h3
      · exact absurd e hx'.2
      · rw [ek]; exact h3
  · rw [← h.all k, qa, qb]
    simp only [List.mem_append, List.mem_singleton]
    by_cases e : k = leastL a' b'
    · subst e
      constructor
      · intro _; exact .inr h1
      · intro _; exact .inl (.inr rfl)
    · constructor
      · rintro ((h | h) | h | h)
        · exact .inl h
        · exact absurd h e
        · exact .inr (.inl h.1)
        · exact .inr (.inr h.1)
      · rintro (h | h | h)
        · exact .inl (.inl h)
        · exact .inr (.inl ⟨h, e⟩)
        · exact .inr (.inr ⟨h, e⟩)
  · have h3 := merge_less a' b' hne
    have h4 := h.len
    simp only [List.length_append, List.length_cons, List.length_nil]
    omega

end Go.Proofs.Ytfcocbcihhdbkaa
