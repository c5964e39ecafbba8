/- Commit of a work that has written. -/
import Derived.Test.YtfcocbcihhdbkaaSR
namespace Go.Proofs.Ytfcocbcihhdbkaa
open Go.RowKit Go.Shelf

/-- What Commit leaves: a clash, and all as it was but for the work; or the next state. -/
def CommitPost (R : Rep) (n : Int) (x : WkR) (w : World) (e : Ending) (w' : World) : Prop :=
  ∃ ks, Rises ks ∧ ks.Perm (x.writes.map (·.1)) ∧
    (((∃ k ∈ ks, x.began < lastOf (versOf R.hist k)) ∧ e = .returned (.tuple #[.int .i64 0, .int .i64 4]) ∧ ∃ R0, StoreAt w' R0 ∧ Grew { R with works := del R.works n } [] (verOf x.writes (R.now + 1)) R0 ∧ Keeps (· ∈ R.fp) w w' ∧ (∀ k ∈ R0.fp, k ∈ R.fp ∨ w.heap.size ≤ k) ∧ R0.keys.length ≤ R.keys.length + 30) ∨
     ((∀ k ∈ ks, lastOf (versOf R.hist k) ≤ x.began) ∧ e = .returned (.tuple #[.int .i64 (R.now + 1), .int .i64 0]) ∧ ∃ Rn, StoreAt w' { Rn with now := R.now + 1, works := del R.works n } ∧ Grew R ks (verOf x.writes (R.now + 1)) Rn ∧ Keeps (· ∈ R.fp) w w' ∧ (∀ k ∈ Rn.fp, k ∈ R.fp ∨ w.heap.size ≤ k)))

/-- settle behind a clash -/
theorem settle_back (Rj : Rep) (ks : List ByteArray) (cb eb : Nat) (kbs C : List Nat) (n : Int) (hn : 1 ≤ n ∧ n ≤ 9) (w : World) (hS : StoreAt w Rj) (ht : Tied Rj) (hlen : kbs.length = ks.length) (hl30 : ks.length ≤ 30)
    (hc : Chg w cb (kbs.map clo) C) (hCf : ∀ k ∈ C, k ∉ Rj.fp)
    (hboxes : ∀ i (h : i < kbs.length), w.heap[kbs[i]]? = some (.cells #[.pointer (some ⟨Rj.sb, 0, none⟩)] 23 (0, 0)) ∧ w.heap[kbs[i] + 1]? = some (.cells #[.string (ks.getD i ByteArray.empty)] 9 (0, 0)))
    (hap : ∀ k, (k ∈ kbs ∨ ∃ b ∈ kbs, k = b + 1) → k ∉ Rj.fp) (he : w.cell? ⟨eb, 0, none⟩ = some (.int .i64 n)) (hkl : Rj.keys.length < 1000000000000) (hvl : ∀ x, (versOf Rj.hist x).length < 1000000000000) :
    Calls Try.prog 22 #[.pointer (some ⟨cb, 0, none⟩), .nilIface, .pointer (some ⟨eb, 0, none⟩)] w fun e w' => e = .returned (.tuple #[]) ∧ BackAt Rj w ks.reverse w' := by
  obtain ⟨v, hb, hr, hne, rfl⟩ := hc
  rcases hr.2 with ⟨rfl, h0⟩ | ⟨g, cap, cur, rfl, hg, hnc, hcm, hcs, htk⟩
  · have hk0 : ks = [] := List.eq_nil_of_length_eq_zero (by simp at h0; simp [← hlen, h0])
    subst hk0
    refine (settle_none cb eb n hn w (cell_of_heap hb 0) he).mono ?_
    rintro e w' ⟨rfl, hk⟩
    have hB0 : BackAt Rj w [] w := ⟨Rj, hS, rfl, ht, fun k => by simp [cntK, cutN_zero], fun _ h => h, Keeps.refl _ _, Nat.le_refl _⟩
    exact ⟨rfl, hB0.kept hS hk (fun _ h => h.elim)⟩
  · have e1 : (kbs.map clo).length = kbs.length := by simp
    rw [e1] at hb
    refine settle_steps Rj ks cb eb g cap kbs n hn w hS ht hlen hl30 (cell_of_heap hb 0) (fun i hi => ?_) (hCf g (by simp [Value.ownBlock])) (Array.getElem?_eq_some_iff.1 hg).1 hboxes hap he hkl hvl
    have h1 := hr.cellAt i (by simpa using hi)
    rw [h1]
    simp [hi]

theorem vers_small2 {R : Rep} (g : Good R) (key : ByteArray) : (versOf R.hist key).length < 100000000000 := by
  unfold versOf
  cases hl : look R.hist key with
  | none => simp
  | some y =>
    have hm := look_mem hl
    have h2 := rising_length y.vers 0 R.now (g.rising _ hm) (g.states _ hm)
    have h3 := g.now
    simp only [Option.map_some, Option.getD_some]
    omega

/-- The deferred settle of a Commit that clashes. -/
theorem clash_settle {w w1 w2 : World} {R Rj : Rep} {n : Int} {b0 : Nat} {v : Value} {ks : List ByteArray} {ver : ByteArray → Ver} {j : Nat} {kbs C : List Nat} (h : StoreAt w R) (hwm : R.wm = some b0) (g : Good R) (hris : Rises ks) (hj : j < ks.length) (h30 : ks.length ≤ 30) (hkl : R.keys.length < 900000000000)
    (hB : BecomeAt ((w.alloc (.cells #[.int .i64 0] 28)).alloc (.cells #[.slice none 0 0] 56)) R (w.heap.size + 1) [] [w.heap.size + 1] v ks ver j w1 Rj kbs C)
    (hm2 : MapAt (Value.int .i64) w2 b0 (del (R.works.map fun p => (p.1, workPtr p.2)) n)) (hk2 : Keeps (· = b0) w1 w2) (hE : w2.heap[w.heap.size]? = some (.cells #[.int .i64 0] 28 (0, 0))) :
    Calls Try.prog 22 #[.pointer (some ⟨w.heap.size + 1, 0, none⟩), .nilIface, .pointer (some ⟨w.heap.size, 0, none⟩)] (w2.setCell ⟨w.heap.size, 0, none⟩ (.int .i64 4)) fun e w' => e = .returned (.tuple #[]) ∧
      ((∃ R0, StoreAt w' R0 ∧ Grew { R with works := del R.works n } [] ver R0 ∧ (∀ k ∈ R0.fp, k ∈ R.fp ∨ w.heap.size + 2 ≤ k) ∧ R0.keys.length ≤ R.keys.length + 30) ∧ Keeps (fun k => (k ∈ R.fp ∨ w.heap.size + 2 ≤ k) ∧ k ≠ w.heap.size) (w2.setCell ⟨w.heap.size, 0, none⟩ (.int .i64 4)) w') := by
  have hsame := hB.grew.same
  have esb : Rj.sb = R.sb := by rw [hsame]
  have ewm : Rj.wm = some b0 := by rw [hsame]; exact hwm
  have ewk : Rj.works = R.works := by rw [hsame]
  have hfl := fp_lt h
  have hbR : b0 ∈ R.fp := by simp [Rep.fp, Rep.fpWorks, hwm]
  have hbl := hfl _ hbR
  have hbj : b0 ∈ Rj.fp := by simp [Rep.fp, Rep.fpWorks, ewm]
  have hz1 : w.heap.size + 2 ≤ w1.heap.size := by have := hB.keeps.size; simpa using this
  have hfE : ∀ k ∈ Rj.fp, k ∈ R.fp ∨ w.heap.size + 2 ≤ k := fun k hk => by
    rcases hB.fpE k hk with h1 | h1
    · exact .inl h1
    · simp at h1; exact .inr (by omega)
  have hcE : ∀ k ∈ C, k = w.heap.size + 1 ∨ w.heap.size + 2 ≤ k := fun k hk => by
    rcases hB.cE k hk with h1 | h1
    · simp at h1; exact .inl h1
    · simp at h1; exact .inr (by omega)
  have hsub : (Rep.fp { Rj with works := del R.works n }).Sublist Rj.fp := by
    have := fp_del (R := Rj) (n := n)
    rw [ewk] at this
    exact this
  have heb : ∀ k ∈ Rj.fp, k ≠ w.heap.size := fun k hk e => by
    rcases hfE k hk with h1 | h1
    · have := hfl k h1; omega
    · omega
  have s2 : StoreAt w2 { Rj with works := del Rj.works n } := hB.store.removed (C := []) ewm (by simp) (hk2.mono (fun _ _ h => .inr h)) (by rw [ewk]; exact hm2)
  rw [ewk] at s2
  have hks : Keeps (· = w.heap.size) w2 (w2.setCell ⟨w.heap.size, 0, none⟩ (.int .i64 4)) := Keeps.setCell w2 ⟨w.heap.size, 0, none⟩ (.int .i64 4)
  have s3 : StoreAt (w2.setCell ⟨w.heap.size, 0, none⟩ (.int .i64 4)) { Rj with works := del R.works n } := s2.kept hks (fun k hk e => heb k (hsub.subset hk) e)
  have hk13 : Keeps (fun k => k = b0 ∨ k = w.heap.size) w1 (w2.setCell ⟨w.heap.size, 0, none⟩ (.int .i64 4)) := (hk2.mono (fun _ _ h => .inl h)).tr hks (fun _ h => .inr h)
  have hE1 : w1.heap[w.heap.size]? = some (.cells #[.int .i64 0] 28 (0, 0)) := by
    rw [← hk2.block w.heap.size (by omega) (fun e => by have e' : w.heap.size = b0 := e; omega)]
    exact hE
  have t3 : Tied { Rj with works := del R.works n } := ⟨hB.grew.tied.rises, hB.grew.tied.keys, hB.grew.tied.filled⟩
  have hchg : Chg (w2.setCell ⟨w.heap.size, 0, none⟩ (.int .i64 4)) (w.heap.size + 1) (kbs.map clo) C := by
    have := hB.chg.kept hk13 (fun k hk e => by
      rcases e with rfl | rfl
      · exact hB.fpC _ hk hbj
      · rcases hcE _ hk with h1 | h1 <;> omega)
    simpa using this
  have hlen : kbs.length = (ks.take j).length := by rw [hB.len, List.length_take]; omega
  have hkbx : ∀ i (hi : i < kbs.length), (kbs[i] ≠ b0 ∧ kbs[i] ≠ w.heap.size) ∧ kbs[i] + 1 ≠ b0 ∧ kbs[i] + 1 ≠ w.heap.size := fun i hi => by
    obtain ⟨h1, h2⟩ := hB.boxes i hi
    refine ⟨⟨fun e => (hB.apart _ (.inr (.inl (List.getElem_mem hi)))).1 (e ▸ hbj), fun e => ?_⟩, fun e => (hB.apart _ (.inr (.inr ⟨_, List.getElem_mem hi, rfl⟩))).1 (e ▸ hbj), fun e => ?_⟩
    · rw [e, hE1] at h1
      simp at h1
    · rw [e, hE1] at h2
      simp at h2
  have hss : ((w.alloc (.cells #[.int .i64 0] 28)).alloc (.cells #[.slice none 0 0] 56)).heap.size = w.heap.size + 2 := by simp
  have hgrew : Grew { R with works := del R.works n } (ks.take j) ver { Rj with works := del R.works n } := ⟨by rw [hsame], hB.grew.vers, t3⟩
  refine (settle_back { Rj with works := del R.works n } (ks.take j) (w.heap.size + 1) w.heap.size kbs C 4 (by omega) _ s3 t3 hlen (by rw [List.length_take]; omega) hchg (fun k hk hf => hB.fpC k hk (hsub.subset hf)) (fun i hi => ?_) (fun k hk hf => ?_) (cell_of_heap (heap_setCell_same (i := 0) hE (.int .i64 4)) 0) ?_ (fun y => ?_)).mono ?_
  · have hij : i < j := by have := hB.len; omega
    have e1 : (ks.take j).getD i ByteArray.empty = ks.getD i ByteArray.empty := by simp [hij]
    obtain ⟨b1, b2⟩ := hB.boxes i hi
    obtain ⟨⟨n1, n2⟩, n3, n4⟩ := hkbx i hi
    refine ⟨?_, ?_⟩
    · show _ = some (Obj.cells #[.pointer (some ⟨Rj.sb, 0, none⟩)] _ _)
      rw [esb, ← b1]
      exact hk13.block _ (Array.getElem?_eq_some_iff.1 b1).1 (by rintro (e | e); exact n1 e; exact n2 e)
    · rw [e1, ← b2]
      exact hk13.block _ (Array.getElem?_eq_some_iff.1 b2).1 (by rintro (e | e); exact n3 e; exact n4 e)
  · exact (hB.apart _ (.inr hk)).1 (hsub.subset hf)
  · show Rj.keys.length < _
    have := hB.klen
    omega
  · show (versOf Rj.hist y).length < _
    have h1 := vers_small2 g y
    rw [hB.grew.vers]
    split
    · simp; omega
    · omega
  · rintro e w' ⟨rfl, hBack⟩
    obtain ⟨R0, g1, g2, g3, g4, g5⟩ := hBack.all hgrew ((rises_nodup hris).sublist (List.take_sublist _ _))
    refine ⟨rfl, ⟨R0, g1, g2, fun k hk => hfE k (hsub.subset (g3 k hk)), ?_⟩, g4.mono (fun k _ hk => ⟨hfE k (hsub.subset hk), heb k (hsub.subset hk)⟩)⟩
    have h1 : R0.keys.length ≤ Rj.keys.length := g5
    have h2 := hB.klen
    omega

set_option maxRecDepth 100000 in
set_option maxHeartbeats 1000000 in
theorem commit_some (R : Rep) (n : Int) (x : WkR) (w : World) (h : StoreAt w R) (g : Good R) (t : Tied R) (hn : look R.works n = some x) (hwr : x.writes ≠ []) (hnow : R.now < 1000000000) (hkl : R.keys.length < 900000000000) :
    Calls Try.prog 13 #[.pointer (some ⟨R.sb, 0, none⟩), .int .i64 n] w (CommitPost R n x w) := by
  obtain ⟨b0, hwm⟩ := wm_some h hn
  have hmf : ∀ (fn : Fn) (first cap : Array Value) (w : World), (Instr.makeFunc fn first cap).run Try.prog w = .ok (.func fn first cap) w := fun _ _ _ _ => rfl
  have hk0 : Keeps (fun _ => False) w ((w.alloc (.cells #[.int .i64 0] 28)).alloc (.cells #[.slice none 0 0] 56)) := ((Keeps.refl (fun _ => False) w).al _).al _
  have hW := h.kept hk0 (fun _ _ h => h)
  have hf := find_any R n _ hW
  rw [hn] at hf
  simp only [Option.map_some, Option.getD_some, workPtr] at hf
  have c0 : w.cell? ⟨R.sb, 0, none⟩ = some (.int .i64 R.now) := h.cell 0
  have c3 : w.cell? ⟨R.sb, 3, none⟩ = some (.map (some b0)) := (h.cell 3).trans (by rw [← hwm]; rfl)
  have hlt := h.lt
  have hbf : b0 ∈ R.fp := by simp [Rep.fp, Rep.fpWorks, hwm]
  have hbl := fp_lt h _ hbf
  have hxm : (n, x) ∈ R.works := look_mem hn
  obtain ⟨d0, d1, dM⟩ := h.works.work hxm
  obtain ⟨-, -, dMW⟩ := hW.works.work hxm
  have h30 := g.writes30 _ hxm
  obtain ⟨m, hm⟩ : ∃ m, x.writes.length = m + 1 := ⟨x.writes.length - 1, by have := List.length_pos_iff.2 hwr; omega⟩
  have hm30 : m < 30 := by simp at h30; omega
  have hdl : (x.writes.map fun q => (q.1, q.2.val)).length = m + 1 := by rw [List.length_map, hm]
  have HDL : Hid ((x.writes.map fun q => (q.1, q.2.val)).length = m + 1) := hdl
  have HDM : Hid (MapAt Value.string ((w.alloc (.cells #[.int .i64 0] 28)).alloc (.cells #[.slice none 0 0] 56)) x.mb (x.writes.map fun q => (q.1, q.2.val))) := dMW
  have hxl : x.blk < w.heap.size := World.block_lt_of_cell? _ _ d0
  have hbc := become_any R n x (w.heap.size + 1) [w.heap.size + 1] _ hW g t hxm (chg_new w _) (fun k hk hf => by have := fp_lt h k hf; simp at hk; omega) hkl
  unfold workPtr at hbc
  have hn0 := g.now.1
  have HST : Hid (StoreAt w R) := h
  have HG : Hid (Good R) := g
  have HWM : Hid (R.wm = some b0) := hwm
  have HN : Hid (look R.works n = some x) := hn
  have HK0 : Hid (Keeps (fun _ => False) w ((w.alloc (.cells #[.int .i64 0] 28)).alloc (.cells #[.slice none 0 0] 56))) := hk0
  clear hW hn h g t hwm dM dMW hxm hdl hm h30 hwr hk0
  go_enter_defers Try.func13, Try.ntmps13
  go_wp2_with (first
    | (go_at_call 30; go_must (refine hf.mono ?_; rintro e w1 ⟨rfl, rfl⟩))
    | (at_len; go_must (refine wpList_len_at _ rfl _ 74 rfl 9 79 Try.underlying74 x.mb rfl _ HDM.out ?_; rw [HDL.out])))
  refine hbc.mono ?_
  rintro e w1 ⟨v, ks, hris, hperm, ⟨j, Rj, kbs, C, hj, hclash, rfl, hB⟩ | ⟨hlast, rfl, Rn, fs, C, hS, hG, hC, hfl, hk1, hCf, hfE, hCE⟩⟩
  · have hsame := hB.grew.same
    have esb : Rj.sb = R.sb := by rw [hsame]
    have ewm : Rj.wm = some b0 := by rw [hsame]; exact HWM.out
    have ewk : Rj.works = R.works := by rw [hsame]
    have hS := hB.store
    have hM1 : MapAt (Value.int .i64) w1 b0 (R.works.map fun p => (p.1, workPtr p.2)) := by
      have := hS.works.worksMap
      rw [ewm, ewk] at this
      exact this
    have c31 : w1.cell? ⟨R.sb, 3, none⟩ = some (.map (some b0)) := by
      have := hS.cell 3
      rw [esb] at this
      rw [this]
      simp [topCells, ewm]
    have hz1 : w.heap.size + 2 ≤ w1.heap.size := by have := hB.keeps.size; simpa using this
    have hE1 : w1.heap[w.heap.size]? = some (.cells #[.int .i64 0] 28 (0, 0)) := ((hB.keeps.block w.heap.size (by simp; omega) (by rintro (hc | hc); exact absurd (fp_lt HST.out _ hc) (by omega); (simp at hc))).trans (Below.heap_alloc _ _ _ (by simp))).trans (heap_new w _)
    have HE1 : Hid (w1.heap[w.heap.size]? = some (.cells #[.int .i64 0] 28 (0, 0))) := hE1
    have HB : Hid (BecomeAt ((w.alloc (.cells #[.int .i64 0] 28)).alloc (.cells #[.slice none 0 0] 56)) R (w.heap.size + 1) [] [w.heap.size + 1] v ks (verOf x.writes (R.now + 1)) j w1 Rj kbs C) := hB
    have HM1 : Hid (MapAt (Value.int .i64) w1 b0 (R.works.map fun p => (p.1, workPtr p.2))) := hM1
    have HR : Hid (Rises ks ∧ ks.Perm (x.writes.map (·.1)) ∧ ∃ k ∈ ks, x.began < lastOf (versOf R.hist k)) := ⟨hris, hperm, ks[j], List.getElem_mem hj, hclash⟩
    have hsl1 : R.sb < w1.heap.size := by omega
    have hel1 : w.heap.size < w1.heap.size := by omega
    clear hsame esb ewm ewk hM1 hE1 hS hris hperm hclash c0 c3 hB
    go_wp2_with (first
      | (at_delete; go_must (refine wpList_delete_at _ rfl _ _ 59 3 rfl 73 intKeyOk Try.underlying59 Try.underlying3 b0 rfl n rfl _ HM1.out ?_; intro w2 hm2 hk2 hz2; have hE0 : w2.heap[w.heap.size]? = some (.cells #[.int .i64 0] 28 (0, 0)) := (hk2.block w.heap.size (by omega) (fun e => by (have e' : w.heap.size = b0 := e); omega)).trans HE1.out; have y0 : w2.cell? ⟨w.heap.size, 0, none⟩ = some (.int .i64 0) := cell_of_heap hE0 0; have y1 : w2.frozen? ⟨w.heap.size, 0, none⟩ = false := frozen_of_heap hE0 0; have HE0 : Hid (w2.heap[w.heap.size]? = some (.cells #[.int .i64 0] 28 (0, 0))) := hE0; clear hE0)))
    refine leaves_cons (f := 29) (args := #[.pointer (some ⟨w.heap.size + 1, 0, none⟩), .pointer (some ⟨w.heap.size, 0, none⟩)]) (by simp) (by simp [go_sem]) ?_
    have hE1 := heap_setCell_same (i := 0) HE0.out (.int .i64 4)
    refine (commit1_any (w.heap.size + 1) w.heap.size _ _ (clash_settle HST.out HWM.out HG.out HR.out.1 hj (by have h1 := HR.out.2.1.length_eq; have h2 := HG.out.writes30 _ (look_mem HN.out); simp at h1 h2; omega) hkl HB.out hm2 hk2 HE0.out)).mono ?_
    rintro e u' w'' ⟨rfl, rfl, hK⟩
    have hb : w''.cell? ⟨w.heap.size, 0, none⟩ = some (.int .i64 4) := hK.2.cell (p := ⟨w.heap.size, 0, none⟩) (cell_of_heap hE1 0) (fun hf => by have := hf.2; simp at this)
    have hpost : CommitPost R n x w (.returned (.tuple #[.int .i64 0, .int .i64 4])) w'' := by
      obtain ⟨⟨R0, s0, g0, f0, l0⟩, hkK⟩ := hK
      refine ⟨ks, HR.out.1, HR.out.2.1, .inl ⟨HR.out.2.2, rfl, R0, s0, g0, ?_, fun k hk => ?_, l0⟩⟩
      · have h1 : Keeps (· ∈ R.fp) w w1 := (HK0.out.mono (fun _ _ h => h.elim)).trans HB.out.keeps (fun k hk h => by
          rcases h with h | h
          · exact h
          · simp at h; omega)
        have h2 := h1.tr hk2 (fun k h => by have h' : k = b0 := h; exact h' ▸ hbf)
        refine (h2.st (p := ⟨w.heap.size, 0, none⟩) (.inl (Nat.le_refl _)) (.int .i64 4)).trans hkK (fun k hk h => ?_)
        rcases h.1 with h1 | h1
        · exact h1
        · omega
      · rcases f0 k hk with h1 | h1
        · exact .inl h1
        · exact .inr (by omega)
    simp [Leaves, settle, results, Try.results13, go_sem, hb]
    exact hpost
  · have hsame := hG.same
    have esb : Rn.sb = R.sb := by rw [hsame]
    have ewm : Rn.wm = some b0 := by rw [hsame]; exact HWM.out
    have ewk : Rn.works = R.works := by rw [hsame]
    have hbn : b0 ∈ Rn.fp := by simp [Rep.fp, Rep.fpWorks, ewm]
    have hsn : R.sb ∈ Rn.fp := by rw [← esb]; simp [Rep.fp]
    have hM1 : MapAt (Value.int .i64) w1 b0 (R.works.map fun p => (p.1, workPtr p.2)) := by
      have := hS.works.worksMap
      rw [show ({ Rn with now := R.now + 1 } : Rep).wm = some b0 from ewm, show ({ Rn with now := R.now + 1 } : Rep).works = R.works from ewk] at this
      exact this
    have c31 : w1.cell? ⟨R.sb, 3, none⟩ = some (.map (some b0)) := by
      have := hS.cell 3
      rw [show ({ Rn with now := R.now + 1 } : Rep).sb = R.sb from esb] at this
      rw [this]
      simp [topCells, ewm]
    have c01 : w1.cell? ⟨R.sb, 0, none⟩ = some (.int .i64 (R.now + 1)) := by
      have := hS.cell 0
      rw [show ({ Rn with now := R.now + 1 } : Rep).sb = R.sb from esb] at this
      rw [this]
      simp [topCells]
    have hbC : b0 ∉ C := fun hf => hCf _ hf hbn
    have hsC : R.sb ∉ C := fun hf => hCf _ hf hsn
    have hsb0 : R.sb ≠ b0 := by
      have hnd := HST.out.nodup
      simp only [Rep.fp, Rep.fpWorks, HWM.out, Option.toList_some, List.cons_append, List.nil_append, List.nodup_cons, List.mem_cons, List.mem_append, not_or] at hnd
      exact hnd.1.1
    have hflen : fs.length < 1000000000000 := by
      have h1 := hperm.length_eq
      have h2 := HG.out.writes30 _ (look_mem HN.out)
      simp at h1 h2 hfl
      omega
    have hrm := remove_work (w.heap.size + 1) fs C b0 n _ (some ⟨x.blk, 0, none⟩) w1 hC hM1 (by rw [look_map, HN.out]; rfl) hbC hflen
    have hz1 : w.heap.size + 2 ≤ w1.heap.size := by have := hk1.size; simpa using this
    have heC : w.heap.size ∉ C := fun hf => by
      rcases hCE _ hf with h1 | h1
      · simp at h1
      · simp at h1; omega
    have hE1 : w1.heap[w.heap.size]? = some (.cells #[.int .i64 0] 28 (0, 0)) := ((hk1.block w.heap.size (by simp; omega) (by rintro (hc | hc); exact absurd (fp_lt HST.out _ hc) (by omega); (simp at hc))).trans (Below.heap_alloc _ _ _ (by simp))).trans (heap_new w _)
    have HE1 : Hid (w1.heap[w.heap.size]? = some (.cells #[.int .i64 0] 28 (0, 0)) ∧ w.heap.size ∉ C ∧ R.sb ∉ C ∧ R.sb ≠ b0) := ⟨hE1, heC, hsC, hsb0⟩
    have HS : Hid (StoreAt w1 { Rn with now := R.now + 1 }) := hS
    have HGR : Hid (Grew R ks (verOf x.writes (R.now + 1)) Rn) := hG
    have HR : Hid (Rises ks ∧ ks.Perm (x.writes.map (·.1)) ∧ ∀ k ∈ ks, lastOf (versOf R.hist k) ≤ x.began) := ⟨hris, hperm, hlast⟩
    have HK1 : Hid (Keeps (fun k => k ∈ R.fp ∨ k ∈ [w.heap.size + 1]) ((w.alloc (.cells #[.int .i64 0] 28)).alloc (.cells #[.slice none 0 0] 56)) w1) := hk1
    have HCF : Hid ((∀ k ∈ C, k ∉ Rn.fp) ∧ (∀ k ∈ C, k ∈ [w.heap.size + 1] ∨ ((w.alloc (.cells #[.int .i64 0] 28)).alloc (.cells #[.slice none 0 0] 56)).heap.size ≤ k)) := ⟨hCf, hCE⟩
    have HFE : Hid (∀ k ∈ Rn.fp, k ∈ R.fp ∨ ((w.alloc (.cells #[.int .i64 0] 28)).alloc (.cells #[.slice none 0 0] 56)).heap.size ≤ k) := hfE
    have HEE : Hid (Rn.sb = R.sb ∧ Rn.wm = some b0 ∧ Rn.works = R.works) := ⟨esb, ewm, ewk⟩
    have hsl1 : R.sb < w1.heap.size := by omega
    have hel1 : w.heap.size < w1.heap.size := by omega
    clear hsame esb ewm ewk hbn hsn hM1 hbC hsC hsb0 hflen heC hE1 hS hG hris hperm hlast hk1 hCf hCE hfE hC hfl c0 c3
    go_wp2_with (first
      | (go_at_call 31; go_must (refine hrm.mono ?_; rintro e w2 ⟨rfl, fs2, C2, hf2, hC2, hk2, hC2', hm2⟩; obtain ⟨q1, q2, q3, q4⟩ := HE1.out; have hE0 : w2.heap[w.heap.size]? = some (.cells #[.int .i64 0] 28 (0, 0)) := (hk2.block w.heap.size (by omega) (by rintro (hc | hc); exact q2 hc; omega)).trans q1; have y0 : w2.cell? ⟨w.heap.size, 0, none⟩ = some (.int .i64 0) := cell_of_heap hE0 0; have y1 : w2.frozen? ⟨w.heap.size, 0, none⟩ = false := frozen_of_heap hE0 0; have HE0 : Hid (w2.heap[w.heap.size]? = some (.cells #[.int .i64 0] 28 (0, 0))) := hE0; have z0 : w2.cell? ⟨R.sb, 0, none⟩ = some (.int .i64 (R.now + 1)) := hk2.cell (p := ⟨R.sb, 0, none⟩) c01 (by rintro (hc | hc); exact q3 hc; exact q4 hc); clear hE0 q1 q2 q3 q4)))
    refine leaves_cons (f := 29) (args := #[.pointer (some ⟨w.heap.size + 1, 0, none⟩), .pointer (some ⟨w.heap.size, 0, none⟩)]) (by simp) (by simp [go_sem]) ?_
    have hE1 := heap_setCell_same (i := 0) HE0.out (.int .i64 0)
    refine (commit1_ok (w.heap.size + 1) w.heap.size _ ?_).mono ?_
    · exact cell_of_heap hE1 0
    rintro e u' w'' ⟨rfl, rfl, rfl⟩
    have hpost : CommitPost R n x w (.returned (.tuple #[.int .i64 (R.now + 1), .int .i64 0])) (w2.setCell ⟨w.heap.size, 0, none⟩ (.int .i64 0)) := by
      obtain ⟨esb, ewm, ewk⟩ := HEE.out
      obtain ⟨hCf, hCE⟩ := HCF.out
      have hfE := HFE.out
      have s1 : StoreAt w2 { Rn with now := R.now + 1, works := del Rn.works n } := HS.out.removed (R := { Rn with now := R.now + 1 }) ewm (fun k hk hf => hCf k hk hf) hk2 (by rw [show ({ Rn with now := R.now + 1 } : Rep).works = R.works from ewk]; exact hm2)
      have hfp : ∀ k ∈ Rn.fp, k ∈ R.fp ∨ w.heap.size + 2 ≤ k := fun k hk => by
        rcases hfE k hk with h1 | h1
        · exact .inl h1
        · simp at h1; exact .inr (by omega)
      rw [ewk] at s1
      refine ⟨ks, HR.out.1, HR.out.2.1, .inr ⟨HR.out.2.2, rfl, Rn, s1.kept (Keeps.setCell _ _ _) (fun k hk e => ?_), HGR.out, ?_, fun k hk => ?_⟩⟩
      · have e' : k = w.heap.size := e
        have hk' : k ∈ Rn.fp := by
          have := (fp_del (R := { Rn with now := R.now + 1 }) (n := n)).subset (show k ∈ Rep.fp { Rn with now := R.now + 1, works := del Rn.works n } by rw [ewk]; exact hk)
          exact this
        rcases hfp k hk' with h1 | h1
        · have := fp_lt HST.out k h1; omega
        · omega
      · have h1 : Keeps (· ∈ R.fp) w w1 := (HK0.out.mono (fun _ _ h => h.elim)).trans HK1.out (fun k hk h => by
          rcases h with h | h
          · exact h
          · simp at h; omega)
        refine (h1.trans hk2 (fun k hk h => ?_)).st (.inl (Nat.le_refl _)) _
        rcases h with h | rfl
        · rcases hCE k h with h1 | h1
          · simp at h1; omega
          · simp at h1; omega
        · exact hbf
      · rcases hfp k hk with h1 | h1
        · exact .inl h1
        · exact .inr (by omega)
    have hb := cell_of_heap hE1 0
    generalize w2.setCell ⟨w.heap.size, 0, none⟩ (.int .i64 0) = W3 at hpost hb
    simp at hb
    simp [Leaves, settle, results, Try.results13, go_sem, hb]
    exact hpost

end Go.Proofs.Ytfcocbcihhdbkaa
