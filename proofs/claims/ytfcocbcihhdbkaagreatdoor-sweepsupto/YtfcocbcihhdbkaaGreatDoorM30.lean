import Derived.Test.YtfcocbcihhdbkaaGreatDoorM29

/- ownsPairs: the walk. -/
namespace Go.Proofs.YtfcocbcihhdbkaaGreatDoor
open Go.RowKit Go.Shelf

set_option maxRecDepth 100000 in
set_option maxHeartbeats 4000000 in
theorem ownsPairs_any {K bb : Nat} {vp vm : Value} {nx : Int} {Ls : List (Value × ByteArray)} (v : Value) (n : Nat) (xs : List Value) (w : World) (h : BookAt K w bb vp vm nx Ls) (hr : Row w 90 2 v n xs) (hv : ∀ g, v.ownBlock = some g → g ∉ bookFp bb vp vm Ls) (hn : n ≤ 20000000000) (hK : K ≤ 10000000000) :
    Calls Tryz.prog 141 #[.pointer (some ⟨bb, 0, none⟩), v] w fun e w' => e = .returned (.tuple #[]) ∧ OwnsPost K bb vp vm Ls v w w' := by
  have HM := hid (mark_any bb vp vm (.slice none 0 0) (.slice none 0 0) nx w h.top h.nx.1 (by have := h.nx.2; omega))
  obtain ⟨oa, ca, rfl, hm, sa⟩ := hr.form
  obtain ⟨op, cp, rfl, hmp, -⟩ := h.pairs.form
  obtain ⟨om, cm, rfl, hmm, -⟩ := h.marks.form
  have HB := hid h
  have HV := hid hv
  have SA := hid sa
  have HXL : Hid (xs.length = n * 2) := hr.1
  have HLL : Hid (Ls.length ≤ 40000000000) := by have := h.len; show _ ≤ _; omega
  have HR := hid hr
  obtain ⟨i0, hi, hz0, hz1, hz2⟩ := info_parts Tryz.infoPair
  obtain ⟨i1, hi1, hz10, hz11, hz12⟩ := info_parts Tryz.infoPairs
  obtain ⟨i2, hi2, hz20, hz21, hz22⟩ := info_parts Tryz.infoStr
  unfold maxLen at hm hmp hmm
  clear h hr hv sa hK
  go_enter Tryz.func141, Tryz.ntmps141
  go_wp2_with fail
  refine (HM.out).mono ?_
  rintro e w1 ⟨m, rfl, k1, t1⟩
  have HR1 : Hid (Row w1 90 2 (.slice oa n ca) n xs) := HR.out.kept k1 (fun g hg e => HV.out g hg (mem_bookFp.2 (.inl e)))
  have K1 := hid k1
  have T1 := hid t1
  clear k1 t1 HM HR
  go_wp2_with fail
  go_loopw [6] (fun i wr => ∃ k : Nat, k ≤ n ∧ i = .int .i64 k ∧ Keeps (fun j => (Value.slice oa n ca).ownBlock = some j) (w1.alloc (.cells #[.string m, .string m] 90)) wr ∧ Row wr 90 2 (.slice oa n ca) n (mixL m xs k)) (fun i _ => n - (intOf i).toNat)
  case atStart => exact ⟨0, Nat.zero_le _, rfl, Keeps.refl _ _, by rw [mixL_zero]; exact HR1.out.kept (Keeps.alloc (fun _ => False) _ _) (fun _ _ h => h)⟩
  case round =>
    obtain ⟨k, hk, rfl, hkr, hrr⟩ := hrel
    have hbox : ∀ W : World, Keeps (fun j => (Value.slice oa n ca).ownBlock = some j) (w1.alloc (.cells #[.string m, .string m] 90)) W → W.heap[w1.heap.size]? = some (.cells #[.string m, .string m] 90 (0, 0))   := fun W hW => box_kept hW (fun e => by have := HR1.out.lt e; omega)
    have HBOX := hid hbox
    have b0 : wr.cell? ⟨w1.heap.size, 0, none⟩ = some (.string m) := cell_of_heap (hbox _ hkr) 0
    have b1 : wr.cell? ⟨w1.heap.size, 1, none⟩ = some (.string m) := cell_of_heap (hbox _ hkr) 1
    have HKR := hid hkr
    have HRR := hid hrr
    clear hbox hkr hrr
    by_cases hlt : k < n
    · obtain ⟨g, rfl⟩ := SA.out (by omega)
      have hl : (mixL m xs k).length = n * 2 := HRR.out.1
      obtain ⟨u0, e0⟩ : ∃ u, (mixL m xs k)[k * 2]? = some u := ⟨_, List.getElem?_eq_getElem (by omega)⟩
      obtain ⟨u1, e1⟩ : ∃ u, (mixL m xs k)[k * 2 + 1]? = some u := ⟨_, List.getElem?_eq_getElem (by omega)⟩
      have c0 : wr.cell? ⟨g, k * 2, none⟩ = some u0 := (HRR.out.cellAt (k * 2) (by omega)).trans e0
      have c1 : wr.cell? ⟨g, k * 2 + 1, none⟩ = some u1 := (HRR.out.cellAt (k * 2 + 1) (by omega)).trans e1
      have f0 := HRR.out.frozenAt (k * 2)
      have f1 := HRR.out.frozenAt (k * 2 + 1)
      clear e0 e1 hl
      go_wp2
      refine ⟨⟨k + 1, by omega, by go_num, (HKR.out.st (p := ⟨g, k * 2, none⟩) (.inr rfl) _).st (p := ⟨g, k * 2 + 1, none⟩) (.inr rfl) _, ?_⟩, by simp only [intOf]; omega⟩
      have := (HRR.out.setAt (k * 2) (.string m)).setAt (k * 2 + 1) (.string m)
      rw [mixL_next m HXL.out hlt] at this
      exact this
    · have e : k = n := by omega
      subst e
      have HR0 : Hid (Row wr 90 2 (.slice oa k ca) k (List.replicate (k * 2) (.string m))) := by
        have := HRR.out
        rw [mixL_full m HXL.out] at this
        exact this
      clear HRR
      have HZ : Hid (w.heap.size ≤ wr.heap.size) := by
        have z1 := K1.out.size
        have z2 := HKR.out.size
        simp at z2
        show _ ≤ _
        omega
      go_upto_region 7 with (at_builtin; go_must (refine wpList_append_same _ rfl _ _ 55 rfl 90 i0 _ 2 32 Tryz.underlying55 hi hz0 hz1 hz2 rfl (.slice oa k ca) k _ rfl (HR0.out.kept (Keeps.alloc (fun _ => False) _ _) (fun _ _ h => h)) ⟨wr.heap.size, 0, none⟩ 1 1 [.string m, .string m] rfl rfl (news_arr wr #[.string m, .string m] _) (by simp [Value.oneCell']) (by unfold maxLen; omega) (by omega) (.string m) (by simp) ?_; intro v1 w4 a1 g1 o1 s1; have X1 := hid (And.intro a1 (And.intro g1 (And.intro o1 s1))); clear a1 g1 o1 s1))
      obtain ⟨a1, g1, o1, s1⟩ := X1.out
      have A1 : Hid (Row w4 90 2 v1 (k + 1) (List.replicate ((k + 1) * 2) (.string m))) := by
        have := a1
        rw [show [Value.string m, .string m] = List.replicate (1 * 2) (.string m) from rfl, rep_add] at this
        exact this
      have B0 : Hid (Row w4 90 2 (.slice oa k ca) k (List.replicate (k * 2) (.string m))) := s1 _ _ _ (HR0.out.kept (Keeps.alloc (fun _ => False) _ _) (fun _ _ h => h)) (rep_all m _)
      have HK4 : Hid (Keeps (fun j => (Value.slice oa k ca).ownBlock = some j) (w1.alloc (.cells #[.string m, .string m] 90)) w4) := (HKR.out.al _).tr (Keeps.grown g1) (fun _ e => e.symm)
      have HZ4 : Hid (wr.heap.size < w4.heap.size) := by have := g1.size; simp at this; show _ < _; omega
      have O1 : Hid (∀ g, v1.ownBlock = some g → (Value.slice oa k ca).ownBlock = some g ∨ w.heap.size ≤ g) := fun g hg => by
        rcases o1 with e | e
        · exact .inl (e ▸ hg)
        · rw [hg] at e
          have e' : g = wr.heap.size + 1 := by simpa using e
          have := HZ.out
          exact .inr (by omega)
      have q0 : w4.cell? ⟨w1.heap.size, 0, none⟩ = some (.string m) := cell_of_heap (HBOX.out _ HK4.out) 0
      have q1 : w4.cell? ⟨w1.heap.size, 1, none⟩ = some (.string m) := cell_of_heap (HBOX.out _ HK4.out) 1
      clear X1 a1 g1 o1 s1 b0 b1 HR0 HKR
      go_upto_region 8 with (at_builtin; go_must (refine wpList_append_same _ rfl _ _ 55 rfl 90 i0 _ 2 32 Tryz.underlying55 hi hz0 hz1 hz2 rfl (.slice oa k ca) k _ rfl (B0.out.kept (Keeps.alloc (fun _ => False) _ _) (fun _ _ h => h)) ⟨w4.heap.size, 0, none⟩ 2 2 [.string m, .string m, .string m, .string m] rfl rfl (news_arr w4 #[.string m, .string m, .string m, .string m] _) (by simp [Value.oneCell']) (by unfold maxLen; omega) (by omega) (.string m) (by simp) ?_; intro v2 w5 a1 g1 o1 s1; have X1 := hid (And.intro a1 (And.intro g1 (And.intro o1 s1))); clear a1 g1 o1 s1))
      obtain ⟨a1, g1, o1, s1⟩ := X1.out
      have A2 : Hid (Row w5 90 2 v2 (k + 2) (List.replicate ((k + 2) * 2) (.string m))) := by
        have := a1
        rw [show [Value.string m, .string m, .string m, .string m] = List.replicate (2 * 2) (.string m) from rfl, rep_add] at this
        exact this
      have C0 : Hid (Row w5 90 2 (.slice oa k ca) k (List.replicate (k * 2) (.string m))) := s1 _ _ _ (B0.out.kept (Keeps.alloc (fun _ => False) _ _) (fun _ _ h => h)) (rep_all m _)
      have C1 : Hid (Row w5 90 2 v1 (k + 1) (List.replicate ((k + 1) * 2) (.string m))) := s1 _ _ _ (A1.out.kept (Keeps.alloc (fun _ => False) _ _) (fun _ _ h => h)) (rep_all m _)
      have HK5 : Hid (Keeps (fun j => (Value.slice oa k ca).ownBlock = some j) (w1.alloc (.cells #[.string m, .string m] 90)) w5) := (HK4.out.al _).tr (Keeps.grown g1) (fun _ e => e.symm)
      have HZ5 : Hid (w4.heap.size < w5.heap.size) := by have := g1.size; simp at this; show _ < _; omega
      have O2 : Hid (∀ g, v2.ownBlock = some g → (Value.slice oa k ca).ownBlock = some g ∨ w.heap.size ≤ g) := fun g hg => by
        rcases o1 with e | e
        · exact .inl (e ▸ hg)
        · rw [hg] at e
          have e' : g = w4.heap.size + 1 := by simpa using e
          have := HZ.out
          have := HZ4.out
          exact .inr (by omega)
      have r0 : w5.cell? ⟨w1.heap.size, 0, none⟩ = some (.string m) := cell_of_heap (HBOX.out _ HK5.out) 0
      have r1 : w5.cell? ⟨w1.heap.size, 1, none⟩ = some (.string m) := cell_of_heap (HBOX.out _ HK5.out) 1
      clear X1 a1 g1 o1 s1 q0 q1 B0 A1 HK4
      go_upto_region 9 with (at_builtin; go_must (refine wpList_append_same _ rfl _ _ 55 rfl 90 i0 _ 2 32 Tryz.underlying55 hi hz0 hz1 hz2 rfl (.slice oa k ca) k _ rfl (C0.out.kept (Keeps.alloc (fun _ => False) _ _) (fun _ _ h => h)) ⟨w5.heap.size, 0, none⟩ 3 3 [.string m, .string m, .string m, .string m, .string m, .string m] rfl rfl (news_arr w5 #[.string m, .string m, .string m, .string m, .string m, .string m] _) (by simp [Value.oneCell']) (by unfold maxLen; omega) (by omega) (.string m) (by simp) ?_; intro v3 w6 a1 g1 o1 s1; have X1 := hid (And.intro a1 (And.intro g1 (And.intro o1 s1))); clear a1 g1 o1 s1))
      obtain ⟨a1, g1, o1, s1⟩ := X1.out
      have A3 : Hid (Row w6 90 2 v3 (k + 3) (List.replicate ((k + 3) * 2) (.string m))) := by
        have := a1
        rw [show [Value.string m, .string m, .string m, .string m, .string m, .string m] = List.replicate (3 * 2) (.string m) from rfl, rep_add] at this
        exact this
      have D0 : Hid (Row w6 90 2 (.slice oa k ca) k (List.replicate (k * 2) (.string m))) := s1 _ _ _ (C0.out.kept (Keeps.alloc (fun _ => False) _ _) (fun _ _ h => h)) (rep_all m _)
      have D1 : Hid (Row w6 90 2 v1 (k + 1) (List.replicate ((k + 1) * 2) (.string m))) := s1 _ _ _ (C1.out.kept (Keeps.alloc (fun _ => False) _ _) (fun _ _ h => h)) (rep_all m _)
      have D2 : Hid (Row w6 90 2 v2 (k + 2) (List.replicate ((k + 2) * 2) (.string m))) := s1 _ _ _ (A2.out.kept (Keeps.alloc (fun _ => False) _ _) (fun _ _ h => h)) (rep_all m _)
      have HK6 : Hid (Keeps (fun j => (Value.slice oa k ca).ownBlock = some j) (w1.alloc (.cells #[.string m, .string m] 90)) w6) := (HK5.out.al _).tr (Keeps.grown g1) (fun _ e => e.symm)
      have HZ6 : Hid (w.heap.size ≤ w6.heap.size) := by have := g1.size; have h1 := HZ5.out; have h2 := HZ4.out; have h3 := HZ.out; simp at this; show _ ≤ _; omega
      have O3 : Hid (∀ g, v3.ownBlock = some g → (Value.slice oa k ca).ownBlock = some g ∨ w.heap.size ≤ g) := fun g hg => by
        rcases o1 with e | e
        · exact .inl (e ▸ hg)
        · rw [hg] at e
          have e' : g = w5.heap.size + 1 := by simpa using e
          have := HZ.out
          have := HZ4.out
          have := HZ5.out
          exact .inr (by omega)
      clear X1 a1 g1 o1 s1 r0 r1 C0 C1 A2 HK5
      have hbb : bb < w1.heap.size := (Array.getElem?_eq_some_iff.1 T1.out).1
      have T6 : Hid (w6.heap[bb]? = some (.cells #[.slice op Ls.length cp, .slice om Ls.length cm, .slice none 0 0, .slice none 0 0, .int .i64 (nx + 1)] 31 (0, 0))) := by
        show _ = _
        rw [HK6.out.block bb (by simp; omega) (fun e => HV.out bb e (mem_bookFp.2 (.inl rfl))), (Keeps.alloc (fun _ => False) w1 _).block bb hbb (fun h => h)]
        exact T1.out
      have KW6 : Hid (Keeps (fun j => j = bb ∨ (Value.slice oa k ca).ownBlock = some j) w w6) := ((K1.out.mono (T := fun j => j = bb ∨ (Value.slice oa k ca).ownBlock = some j) (fun _ _ h => .inl h)).al _).tr HK6.out (fun _ h => .inr h)
      have P6 : Hid (Row w6 55 1 (.slice op Ls.length cp) Ls.length (Ls.map fun p => p.1)) := HB.out.pairs.kept KW6.out (fun g hg e => by
        rcases e with rfl | e
        · exact (HB.out.pairs.typeIs hg).ne (e' := 31) (by decide) ⟨_, HB.out.top⟩
        · exact HV.out g e (mem_bookFp.2 (.inr (.inl hg))))
      have M6 : Hid (Row w6 9 1 (.slice om Ls.length cm) Ls.length (Ls.map fun p => .string p.2)) := HB.out.marks.kept KW6.out (fun g hg e => by
        rcases e with rfl | e
        · exact (HB.out.marks.typeIs hg).ne (e' := 31) (by decide) ⟨_, HB.out.top⟩
        · exact HV.out g e (mem_bookFp.2 (.inr (.inr (.inl hg)))))
      have r0 : w6.cell? ⟨bb, 0, none⟩ = some (.slice op Ls.length cp) := cell_of_heap T6.out 0
      obtain ⟨p1, c1, rfl⟩ := D1.out.succ
      obtain ⟨p2, c2, rfl⟩ := D2.out.succ
      obtain ⟨p3, c3, rfl⟩ := A3.out.succ
      have HLI : (Ls.length : Int) ≤ 40000000000 := by have := HLL.out; omega
      clear HK6
      have HT7 : Hid (∀ W w7 : World, Keeps (fun _ => False) w6 W → W.grownBy w7 (Value.slice op Ls.length cp).ownBlock → w7.heap[bb]? = some (.cells #[.slice op Ls.length cp, .slice om Ls.length cm, .slice none 0 0, .slice none 0 0, .int .i64 (nx + 1)] 31 (0, 0))) := fun W w7 hk hg => by
        have hb6 : bb < w6.heap.size := (Array.getElem?_eq_some_iff.1 T6.out).1
        rw [(Keeps.grown hg).block bb (Nat.lt_of_lt_of_le hb6 hk.size) (fun e => (P6.out.typeIs e.symm).ne (e' := 31) (by decide) ⟨_, T6.out⟩), hk.block _ hb6 (fun h => h)]
        exact T6.out
      go_upto_region 10 with (at_builtin; go_must (refine wpList_append_row _ rfl _ _ 28 rfl 55 i1 _ 1 24 Tryz.underlying28 hi1 hz10 hz11 hz12 rfl (.slice op Ls.length cp) Ls.length _ rfl (P6.out.kept (Keeps.alloc (fun _ => False) _ _) (fun _ _ h => h)) ⟨w6.heap.size, 0, none⟩ 4 4 [.slice oa k ca, .slice (some ⟨p1, 0, none⟩) (k + 1) c1, .slice (some ⟨p2, 0, none⟩) (k + 1 + 1) c2, .slice (some ⟨p3, 0, none⟩) (k + 2 + 1) c3] rfl rfl (news_arr w6 #[.slice oa k ca, .slice (some ⟨p1, 0, none⟩) (k + 1) c1, .slice (some ⟨p2, 0, none⟩) (k + 1 + 1) c2, .slice (some ⟨p3, 0, none⟩) (k + 2 + 1) c3] _) (by simp [Value.oneCell']) (by have := HLL.out; unfold maxLen; omega) (by have := HLL.out; omega) ?_; intro vq w7 a1 g1 _ o1; obtain ⟨gq, cq, rfl⟩ := Row.succ (n := Ls.length + 3) a1; have t7 := HT7.out _ _ (Keeps.alloc _ _ _) g1; have y0 : w7.cell? ⟨bb, 0, none⟩ = some (.slice op Ls.length cp) := cell_of_heap t7 0; have z0 : w7.frozen? ⟨bb, 0, none⟩ = false := frozen_of_heap t7 0; have X1 := hid (And.intro a1 (And.intro g1 (And.intro o1 t7))); clear a1 g1 o1 t7))
      obtain ⟨a1, g1, o1, t7⟩ := X1.out
      have T8 : Hid ((w7.setCell ⟨bb, 0, none⟩ (.slice (some ⟨gq, 0, none⟩) (Ls.length + 3 + 1) cq)).heap[bb]? = some (.cells #[.slice (some ⟨gq, 0, none⟩) (Ls.length + 3 + 1) cq, .slice om Ls.length cm, .slice none 0 0, .slice none 0 0, .int .i64 (nx + 1)] 31 (0, 0))) := (heap_setCell_same t7 _).trans (by simp)
      have K8 : Hid (Keeps (fun j => j = bb ∨ (Value.slice op Ls.length cp).ownBlock = some j) w6 (w7.setCell ⟨bb, 0, none⟩ (.slice (some ⟨gq, 0, none⟩) (Ls.length + 3 + 1) cq))) := (((Keeps.refl (fun j => j = bb ∨ (Value.slice op Ls.length cp).ownBlock = some j) w6).al _).tr (Keeps.grown g1) (fun _ e => .inr e.symm)).tr (Keeps.setCell _ _ _) (fun _ e => .inl e)
      have P8 : Hid (Row (w7.setCell ⟨bb, 0, none⟩ (.slice (some ⟨gq, 0, none⟩) (Ls.length + 3 + 1) cq)) 55 1 (.slice (some ⟨gq, 0, none⟩) (Ls.length + 3 + 1) cq) (Ls.length + 4) ((Ls.map fun p => p.1) ++ [.slice oa k ca, .slice (some ⟨p1, 0, none⟩) (k + 1) c1, .slice (some ⟨p2, 0, none⟩) (k + 1 + 1) c2, .slice (some ⟨p3, 0, none⟩) (k + 2 + 1) c3])) := Row.kept a1 (Keeps.setCell _ _ _) (fun g hg e => (Row.typeIs a1 hg).ne (e' := 31) (by decide) ⟨_, (show g = bb from e) ▸ t7⟩)
      have M8 : Hid (Row (w7.setCell ⟨bb, 0, none⟩ (.slice (some ⟨gq, 0, none⟩) (Ls.length + 3 + 1) cq)) 9 1 (.slice om Ls.length cm) Ls.length (Ls.map fun p => .string p.2)) := M6.out.kept K8.out (fun g hg e => by
        rcases e with rfl | e
        · exact (M6.out.typeIs hg).ne (e' := 31) (by decide) ⟨_, T6.out⟩
        · exact (M6.out.typeIs hg).ne (e' := 55) (by decide) (P6.out.typeIs e))
      have OP : Hid (∀ g, (Value.slice (some ⟨gq, 0, none⟩) (Ls.length + 3 + 1) cq).ownBlock = some g → (Value.slice op Ls.length cp).ownBlock = some g ∨ w.heap.size ≤ g) := fun g hg => by
        rcases o1 with e | e
        · exact .inl (e ▸ hg)
        · rw [hg] at e
          have e' : g = w6.heap.size + 1 := by simpa using e
          have := HZ6.out
          exact .inr (by omega)
      have T6' : Hid (∃ cs, w6.heap[bb]? = some (.cells cs 31 (0, 0))) := ⟨_, T6.out⟩
      clear X1 a1 g1 o1 t7 y0 z0 r0 HT7 P6 M6 T6 T1 K1
      generalize w7.setCell ⟨bb, 0, none⟩ (.slice (some ⟨gq, 0, none⟩) (Ls.length + 3 + 1) cq) = w8 at *
      have y1 : w8.cell? ⟨bb, 1, none⟩ = some (.slice om Ls.length cm) := cell_of_heap T8.out 1
      have HT9 : Hid (∀ W w9 : World, Keeps (fun _ => False) w8 W → W.grownBy w9 (Value.slice om Ls.length cm).ownBlock → w9.heap[bb]? = some (.cells #[.slice (some ⟨gq, 0, none⟩) (Ls.length + 3 + 1) cq, .slice om Ls.length cm, .slice none 0 0, .slice none 0 0, .int .i64 (nx + 1)] 31 (0, 0))) := fun W w9 hk hg => by
        have hb8 : bb < w8.heap.size := (Array.getElem?_eq_some_iff.1 T8.out).1
        rw [(Keeps.grown hg).block bb (Nat.lt_of_lt_of_le hb8 hk.size) (fun e => (M8.out.typeIs e.symm).ne (e' := 31) (by decide) ⟨_, T8.out⟩), hk.block _ hb8 (fun h => h)]
        exact T8.out
      go_wp2_with (at_builtin; go_must (refine wpList_append_row _ rfl _ _ 26 rfl 9 i2 _ 1 16 Tryz.underlying26 hi2 hz20 hz21 hz22 rfl (.slice om Ls.length cm) Ls.length _ rfl (M8.out.kept (Keeps.alloc (fun _ => False) _ _) (fun _ _ h => h)) ⟨w8.heap.size, 0, none⟩ 4 4 [.string m, .string m, .string m, .string m] rfl rfl (news_arr w8 #[.string m, .string m, .string m, .string m] _) (by simp [Value.oneCell']) (by have := HLL.out; unfold maxLen; omega) (by have := HLL.out; omega) ?_; intro vq w9 a1 g1 _ o1; obtain ⟨gs, cs, rfl⟩ := Row.succ (n := Ls.length + 3) a1; have t9 := HT9.out _ _ (Keeps.alloc _ _ _) g1; have y2 : w9.cell? ⟨bb, 1, none⟩ = some (.slice om Ls.length cm) := cell_of_heap t9 1; have z2 : w9.frozen? ⟨bb, 1, none⟩ = false := frozen_of_heap t9 1; have X1 := hid (And.intro a1 (And.intro g1 (And.intro o1 t9))); clear a1 g1 o1 t9))
      go_end0
      obtain ⟨a1, g1, o1, t9⟩ := X1.out
      have hz8 := K8.out.size
      have hz6 := HZ6.out
      have K9 : Keeps (fun j => j = bb ∨ (Value.slice om Ls.length cm).ownBlock = some j) w8 (w9.setCell ⟨bb, 1, none⟩ (.slice (some ⟨gs, 0, none⟩) (Ls.length + 3 + 1) cs)) := (((Keeps.refl (fun j => j = bb ∨ (Value.slice om Ls.length cm).ownBlock = some j) w8).al _).tr (Keeps.grown g1) (fun _ e => .inr e.symm)).tr (Keeps.setCell _ _ _) (fun _ e => .inl e)
      have K7 : Keeps (fun j => j = bb ∨ (Value.slice op Ls.length cp).ownBlock = some j ∨ (Value.slice om Ls.length cm).ownBlock = some j) w6 (w9.setCell ⟨bb, 1, none⟩ (.slice (some ⟨gs, 0, none⟩) (Ls.length + 3 + 1) cs)) := (K8.out.mono (T := fun j => j = bb ∨ (Value.slice op Ls.length cp).ownBlock = some j ∨ (Value.slice om Ls.length cm).ownBlock = some j) (fun j _ h => h.imp id .inl)).tr K9 (fun j h => h.imp id .inr)
      have T10 : (w9.setCell ⟨bb, 1, none⟩ (.slice (some ⟨gs, 0, none⟩) (Ls.length + 3 + 1) cs)).heap[bb]? = some (.cells #[.slice (some ⟨gq, 0, none⟩) (Ls.length + 3 + 1) cq, .slice (some ⟨gs, 0, none⟩) (Ls.length + 3 + 1) cs, .slice none 0 0, .slice none 0 0, .int .i64 (nx + 1)] 31 (0, 0)) := (heap_setCell_same t9 _).trans (by simp)
      refine ⟨rfl, owns_close HB.out HV.out hn KW6.out K7 T6'.out T10 D0.out D1.out D2.out A3.out O1.out O2.out O3.out ?_ ?_ OP.out ?_⟩
      · exact P8.out.kept K9 (fun g hg e => by
          rcases e with rfl | e
          · exact (P8.out.typeIs hg).ne (e' := 31) (by decide) ⟨_, T8.out⟩
          · exact (P8.out.typeIs hg).ne (e' := 9) (by decide) (M8.out.typeIs e))
      · exact Row.kept a1 (Keeps.setCell _ _ _) (fun g hg e => (Row.typeIs a1 hg).ne (e' := 31) (by decide) ⟨_, (show g = bb from e) ▸ t9⟩)
      · intro g hg
        rcases o1 with e | e
        · exact .inl (e ▸ hg)
        · rw [hg] at e
          have e' : g = w8.heap.size + 1 := by simpa using e
          exact .inr (by omega)

end Go.Proofs.YtfcocbcihhdbkaaGreatDoor

/- same: of two lists that are the same. -/
namespace Go.Proofs.YtfcocbcihhdbkaaGreatDoor
open Go.RowKit Go.Shelf

theorem pairs_at : ∀ (ps : List (ByteArray × ByteArray)) (j r : Nat) (hj : j < ps.length), r < 2 → (ps.flatMap pairCells)[j * 2 + r]? = (pairCells ps[j])[r]?
  | [], j, r, hj, _ => by simp at hj
  | p :: ps, 0, r, _, hr => by
    have : r < (pairCells p).length := by simp [pairCells]; omega
    simp [List.getElem?_append_left this]
  | p :: ps, j + 1, r, hj, hr => by
    have ih := pairs_at ps j r (by simpa using hj) hr
    have e : (j + 1) * 2 + r = (pairCells p).length + (j * 2 + r) := by simp [pairCells]; omega
    rw [List.flatMap_cons, e, List.getElem?_append_right (by omega), Nat.add_sub_cancel_left, ih]
    simp

theorem pairs_length (ps : List (ByteArray × ByteArray)) : (ps.flatMap pairCells).length = ps.length * 2 := by
  induction ps with
  | nil => rfl
  | cons p ps ih => simp [pairCells, ih]; omega

theorem Row.pair {w : World} {g cap : Nat} {ps : List (ByteArray × ByteArray)} (h : Row w 90 2 (.slice (some ⟨g, 0, none⟩) ps.length cap) ps.length (ps.flatMap pairCells)) (j : Nat) (hj : j < ps.length) :
    w.cell? ⟨g, j * 2, none⟩ = some (.string ps[j].1) ∧ w.cell? ⟨g, j * 2 + 1, none⟩ = some (.string ps[j].2) := by
  have h0 := h.cellAt (j * 2) (by omega)
  have h1 := h.cellAt (j * 2 + 1) (by omega)
  have p0 := pairs_at ps j 0 hj (by omega)
  have p1 := pairs_at ps j 1 hj (by omega)
  rw [Nat.add_zero] at p0
  exact ⟨by rw [h0, p0]; rfl, by rw [h1, p1]; rfl⟩

set_option maxRecDepth 100000 in
set_option maxHeartbeats 800000 in
theorem same_eq (va vb : Value) (ps : List (ByteArray × ByteArray)) (w : World) (ha : Row w 90 2 va ps.length (ps.flatMap pairCells)) (hb : Row w 90 2 vb ps.length (ps.flatMap pairCells)) :
    Calls Tryz.prog 23 #[va, vb] w fun e w' => e = .returned (.bool true) ∧ Keeps (fun _ => False) w w' := by
  obtain ⟨oa, ca, rfl, hm, sa⟩ := ha.form
  obtain ⟨ob, cb, rfl, -, sb⟩ := hb.form
  have HA := hid ha
  have HB := hid hb
  have SA := hid sa
  have SB := hid sb
  unfold maxLen at hm
  clear ha hb sa sb
  go_enter Tryz.func23, Tryz.ntmps23
  go_wp2_with fail
  go_loopw [5] (fun i wr => ∃ k : Nat, k ≤ ps.length ∧ i = .int .i64 k ∧ Keeps (fun _ => False) w wr) (fun i _ => ps.length - (intOf i).toNat)
  case atStart => exact ⟨0, Nat.zero_le _, rfl, Keeps.refl _ _⟩
  case round =>
    obtain ⟨k, hk, rfl, hkr⟩ := hrel
    by_cases hlt : k < ps.length
    · obtain ⟨ga, rfl⟩ := SA.out (by omega)
      obtain ⟨gb, rfl⟩ := SB.out (by omega)
      obtain ⟨a0, a1⟩ := (HA.out.kept hkr (fun _ _ h => h)).pair k hlt
      obtain ⟨b0, b1⟩ := (HB.out.kept hkr (fun _ _ h => h)).pair k hlt
      generalize ps[k].1 = x at a0 b0
      generalize ps[k].2 = y at a1 b1
      have HKR := hid hkr
      clear hkr SA SB HA HB
      go_wp2_with fail
      go_region
      go_wp2
      exact ⟨⟨k + 1, by omega, by go_num, HKR.out.dr⟩, by simp only [intOf]; omega⟩
    · go_wp2
      go_ret
      exact ⟨rfl, hkr⟩

end Go.Proofs.YtfcocbcihhdbkaaGreatDoor

/- scan: both stores scanned, the list owned. -/
namespace Go.Proofs.YtfcocbcihhdbkaaGreatDoor
open Go.RowKit Go.Shelf

set_option maxRecDepth 100000 in
set_option maxHeartbeats 2000000 in
theorem pscan_any {N K pb bb : Nat} {Fs G : List Nat} (n : Int) (from_ : ByteArray) (most : Int) (w : World) (h : Both N K w pb bb Fs G) (hN : N ≤ 10000000000) (hK : K ≤ 10000000000) (hs : from_.size ≤ maxLen) (hm : -9223372036854775808 ≤ most ∧ most ≤ 9223372036854775807) :
    Calls Tryz.prog 77 #[.pointer (some ⟨pb, 0, none⟩), .pointer (some ⟨bb, 0, none⟩), .int .i64 n, .string from_, .int .i64 most] w fun e w' => e = .returned (.bool true) ∧ BothAfter N (K + 1) pb bb Fs G w w' := by
  have HH := hid h
  obtain ⟨xb, yb, tx, A, B, FG, FF, hp, h2, hpn, rfl⟩ := id h.duo
  obtain ⟨hD, hlen⟩ := duet_scan h2 hN n from_ most hs hm
  have HD := hid hD
  obtain ⟨vp, vm, nx, Ls, hB, hG⟩ := id h.book
  have HB := hid hB
  have HG := hid hG
  have HLT := hid h.book.lt
  generalize (A.scanR n from_ most).1 = ps at *
  generalize (A.scanR n from_ most).2 = c at *
  have t0 : w.cell? ⟨pb, 0, none⟩ = some (.pointer (some ⟨xb, 0, none⟩)) := cell_of_heap hp 0
  have t1 : w.cell? ⟨pb, 1, none⟩ = some (.pointer (some ⟨yb, 0, none⟩)) := cell_of_heap hp 1
  have hlI : (ps.length : Int) ≤ 20000000000 := by omega
  have HL : Hid (ps.length ≤ 20000000000) := by show _ ≤ _; omega
  have HNU := hid (fun W => num_any c W)
  have HKK := hid hK
  clear h hp h2 hpn hD hB hG hlen hm hN hK
  go_enter Tryz.func77, Tryz.ntmps77
  go_wp2_with fail
  refine (HD.out).mono ?_
  rintro e w1 ⟨v, rfl, r1, o1, k1, hy⟩
  obtain ⟨ov, cv, rfl, hmv, sv⟩ := r1.form
  have u1 := k1.cell t1 (fun h => h)
  have HY := hid hy
  have HR1 := hid r1
  have HO1 := hid o1
  have HK1 := hid k1
  have SV := hid sv
  clear r1 o1 k1 hy sv
  go_wp2_with fail
  refine (HY.out _ (Keeps.refl _ _)).mono ?_
  rintro e w3 ⟨u, rfl, r3, k3⟩
  obtain ⟨ou, cu, rfl, hmu, su⟩ := r3.form
  have HR3 := hid r3
  have HK3 := hid (HK1.out.tr k3 (fun _ h => h))
  have HR1' := hid (HR1.out.kept k3 (fun _ _ h => h))
  have SU := hid su
  unfold maxLen at hmv hmu
  clear r3 k3 su HY HR1
  go_wp2_with (go_at_call 35; go_must (refine (HNU.out _).mono ?_; rintro e w3 ⟨rfl, rfl⟩))
  go_loopw [15, 16] (fun s i wr => ∃ k : Nat, k ≤ ps.length ∧ s = .bool true ∧ i = .int .i64 k ∧ Keeps (fun _ => False) w3 wr) (fun _ i _ => ps.length - (intOf i).toNat)
  case atStart => exact ⟨0, Nat.zero_le _, rfl, rfl, Keeps.refl _ _⟩
  case round =>
    obtain ⟨k, hk, rfl, rfl, hkr⟩ := hrel
    by_cases hlt : k < ps.length
    · obtain ⟨ga, rfl⟩ := SV.out (by omega)
      obtain ⟨gb, rfl⟩ := SU.out (by omega)
      obtain ⟨a0, a1⟩ := (HR1'.out.kept hkr (fun _ _ h => h)).pair k hlt
      obtain ⟨b0, b1⟩ := (HR3.out.kept hkr (fun _ _ h => h)).pair k hlt
      generalize ps[k].1 = x at a0 b0
      generalize ps[k].2 = y at a1 b1
      have HKR := hid hkr
      clear hkr SV SU HR1' HR3
      go_wp2_with fail
      go_region
      go_wp2
      exact ⟨⟨k + 1, by omega, rfl, by go_num, HKR.out.dr⟩, by simp only [intOf]; omega⟩
    · have hkw : Keeps (fun _ => False) w wr := HK3.out.tr hkr (fun _ h => h)
      have HOWN := hid (ownsPairs_any (.slice ov ps.length cv) ps.length _ wr (HB.out.kept hkw (fun _ _ h => h)) (HR1'.out.kept hkr (fun _ _ h => h)) (fun g hg hm => by
        have l1 := HO1.out g hg
        have l2 := HLT.out g (by rw [HG.out]; exact hm)
        omega) HL.out HKK.out)
      have HKW := hid hkw
      clear hkr hkw HB HR1' HR3
      go_wp2_with fail
      refine (HOWN.out).mono ?_
      rintro e w5 ⟨rfl, G', g1, g2, g3⟩
      have HGG := hid (And.intro g1 (And.intro g2 g3))
      clear g1 g2 g3 HOWN
      go_wp2
      go_ret
      obtain ⟨g1, g2, g3⟩ := HGG.out
      rw [← HG.out] at g2 g3
      have hz := HKW.out.size
      refine ⟨rfl, HH.out.bookAfter ⟨G', g1, (HKW.out.mono (T := (· ∈ G)) (fun _ _ h => h.elim)).trans g2 (fun i hi hh => hh.elim id (fun e => by have := HO1.out i e; omega)), fun k hk => ?_⟩⟩
      rcases g3 k hk with h | h | h
      · exact .inl h
      · exact .inr (HO1.out k h)
      · exact .inr (by omega)

end Go.Proofs.YtfcocbcihhdbkaaGreatDoor
