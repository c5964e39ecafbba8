import Derived.Test.YtfcocbcihhdbkaaGreatDoorM23
import Derived.Deep.QuietTactic
import Derived.BigQuiet
import Derived.Deep.DeepCutAuto
import Derived.Deep.CutBlock

/- The document's store: Sweep. -/
namespace Go.Proofs.YtfcocbcihhdbkaaGreatDoor
open Go.RowKit Go.Shelf

theorem next_skip {l : List RVer} {f : Int} {j : Nat} {v : RVer} (hv : l[j]? = some v) (h : throwB l f v = false) : sweepTo l f (j + 1) = sweepTo l f j ∧ sweepNTo l f (j + 1) = sweepNTo l f j := by
  have e : throwV l f v = v := by unfold throwV; rw [h]; rfl
  refine ⟨?_, by rw [sweepNTo_next l f hv, h]; rfl⟩
  rw [sweepTo_next l f hv, e]
  have := sweepTo_at l f hv
  obtain ⟨hj, h2⟩ := List.getElem?_eq_some_iff.1 this
  conv => lhs; rw [← h2]
  exact List.set_getElem_self hj

theorem next_throw {l : List RVer} {f : Int} {j : Nat} {v : RVer} (hv : l[j]? = some v) (h : throwB l f v = true) : sweepTo l f (j + 1) = (sweepTo l f j).set j v.off ∧ sweepNTo l f (j + 1) = sweepNTo l f j + 1 := by
  have e : throwV l f v = v.off := by unfold throwV; rw [h]; rfl
  exact ⟨by rw [sweepTo_next l f hv, e], by rw [sweepNTo_next l f hv, h]; rfl⟩

/-- the store as far as the loop has come -/
def RRep.sweeping (R : RRep) (f : Int) (j : Nat) : RRep := { R with floor := f, all := sweepTo R.all f j }
def RRep.swept (R : RRep) (f : Int) : RRep := { R with floor := f, all := sweptL R.all f }

theorem five_cells {w : World} {b : Nat} {x y z u t : Value} {e : TypeId} (h : w.heap[b]? = some (.cells #[x, y, z, u, t] e (0, 0))) :
    w.cell? ⟨b, 0, none⟩ = some x ∧ w.cell? ⟨b, 1, none⟩ = some y ∧ w.cell? ⟨b, 2, none⟩ = some z ∧ w.cell? ⟨b, 3, none⟩ = some u ∧ w.cell? ⟨b, 4, none⟩ = some t :=
  ⟨cell_of_heap h 0, cell_of_heap h 1, cell_of_heap h 2, cell_of_heap h 3, cell_of_heap h 4⟩

set_option maxRecDepth 100000 in
set_option maxHeartbeats 4000000 in
theorem sweepR_any (R : RRep) (w : World) (h : RefAt w R) (ha : R.all.length < 100000000000) (hw : R.works.length < 100000000000) (hp : R.pins.length < 100000000000) (hc : R.copies.length < 100000000000) :
    Calls Tryz.prog 132 #[.pointer (some ⟨R.b, 0, none⟩)] w fun e w' => e = .returned (.int .i64 (sweepN R.all R.held)) ∧ RCh 152 R (R.swept R.held) w w' := by
  have HHE := hid (held_any R w h hw hp hc)
  obtain ⟨F, hF⟩ : ∃ F, F = R.held := ⟨_, rfl⟩
  rw [← hF] at HHE ⊢
  obtain ⟨oa, ca, hva, hm, sa⟩ := h.all.form
  have HV := hid hva
  have SA := hid sa
  have f2 := h.frozen 2
  have c2 : w.cell? ⟨R.b, 2, none⟩ = some (.int .i64 R.floor) := h.cell 2
  have hblt := h.blt
  have H0 : Hid (RCh 152 R (R.sweeping F 0) w (w.setCell ⟨R.b, 2, none⟩ (.int .i64 F))) := by
    have := h.setFloor (n := F) (e := 152)
    unfold RRep.sweeping
    rw [sweepTo_zero]
    exact this
  have HROW : Hid (∀ j, j ≤ R.all.length → ∀ w1, RefAt w1 (R.sweeping F j) → w1.cell? ⟨R.b, 0, none⟩ = some (.slice oa R.all.length ca) ∧ w1.cell? ⟨R.b, 2, none⟩ = some (.int .i64 F) ∧ Row w1 152 5 (.slice oa (sweepTo R.all F j).length ca) (sweepTo R.all F j).length ((sweepTo R.all F j).flatMap RVer.cells)) := fun j hj w1 h1 => by
    refine ⟨(h1.cell 0).trans (by rw [← hva]; rfl), h1.cell 2, ?_⟩
    have hr := h1.all
    have e : (R.sweeping F j).va = .slice oa (sweepTo R.all F j).length ca := by rw [sweepTo_length _ _ _ hj]; exact hva
    rw [e] at hr
    exact hr
  unfold maxLen at hm
  obtain ⟨al, hal⟩ : ∃ al, al = R.all := ⟨_, rfl⟩
  have HAL := hid hal
  have hla : (al.length : Int) < 100000000000 := by rw [hal]; omega
  rw [← hal] at SA HROW hm ha ⊢
  clear h hva sa hal hF ha hw hp hc
  go_enter Tryz.func132, Tryz.ntmps132
  go_wp2_with (go_at_call 191; go_must (refine (HHE.out).mono ?_; rintro e w1 ⟨rfl, rfl⟩))
  go_loopw [3, 4] (fun n i wr => ∃ j : Nat, j ≤ al.length ∧ i = .int .i64 j ∧ n = .int .i64 (sweepNTo al F j) ∧ RCh 152 R (R.sweeping F j) w1 wr) (fun _ i _ => al.length - (intOf i).toNat)
  case atStart => exact ⟨0, Nat.zero_le _, rfl, rfl, H0.out⟩
  case round =>
    obtain ⟨j, hj, rfl, rfl, hC⟩ := hrel
    have HC := hid hC
    have hnl := sweepNTo_le al F j
    obtain ⟨d0, d2, hr⟩ := HROW.out j hj _ hC.1
    have HRW := hid hr
    have hbl : R.b < wr.heap.size := World.block_lt_of_cell? _ _ d0
    clear hC hr
    obtain ⟨wA, hwA⟩ : ∃ x, x = wr := ⟨_, rfl⟩
    subst hwA
    by_cases hlt : j < al.length
    · obtain ⟨g, rfl⟩ := SA.out (by omega)
      obtain ⟨v, hv⟩ : ∃ v, al[j]? = some v := ⟨al[j], List.getElem?_eq_getElem hlt⟩
      obtain ⟨e0, e1, e2, e3, e4⟩ := ver_at HRW.out (Keeps.refl _ wA) (sweepTo_at al F hv)
      have hgl : g < wA.heap.size := World.block_lt_of_cell? _ _ e0
      have HSK := hid (next_skip (f := F) hv)
      have HTH := hid (next_throw (f := F) hv)
      have HTB : Hid (throwB al F v = (!v.thrown && decide (v.state ≤ F) && (laterL al v F || v.r.gone))) := hid rfl
      have HEND : Hid (∀ W, Keeps (fun _ => False) wA W → throwB al F v = false → RCh 152 R (R.sweeping F (j + 1)) w1 W) := fun W hW hb => by
        have := HC.out.trans (HC.out.1.ch hW)
        unfold RRep.sweeping at this ⊢
        rw [← HAL.out] at this ⊢
        rw [(HSK.out hb).1]
        exact this
      have HEND2 : Hid (∀ W, Keeps (fun _ => False) wA W → throwB al F v = true → RCh 152 R (R.sweeping F (j + 1)) w1 (W.setCell ⟨g, j * 5 + 4, none⟩ (.bool true))) := fun W hW hb => by
        have hs := HC.out.1.setThrown (g := g) (cap := ca) (j := j) (v := v) hW (by
          show R.va = .slice (some ⟨g, 0, none⟩) (sweepTo R.all F j).length ca
          rw [← HAL.out, sweepTo_length _ _ _ hj, HAL.out]
          exact HV.out) (by show (sweepTo R.all F j)[j]? = _; rw [← HAL.out]; exact sweepTo_at al F hv)
        have := HC.out.trans hs
        unfold RRep.sweeping at this ⊢
        rw [← HAL.out] at this ⊢
        rw [(HTH.out hb).1]
        exact this
      have HSKN : Hid (throwB al F v = false → sweepNTo al F (j + 1) = sweepNTo al F j) := fun h => (HSK.out h).2
      have HTHN : Hid (throwB al F v = true → sweepNTo al F (j + 1) = sweepNTo al F j + 1) := fun h => (HTH.out h).2
      have HLT := hid (laterL_to al F j v)
      have HAT := hid (sweepTo_at al F hv)
      generalize hcn : sweepNTo al F j = cn at *
      have HCN := hid hcn
      clear hv HSK HTH hcn
      obtain ⟨vs, ⟨vk, vv, vg⟩, vt⟩ := v
      simp only at e0 e1 e2 e3 e4 HTB
      cases vt with
      | true =>
        have HB : Hid (throwB al F ⟨vs, ⟨vk, vv, vg⟩, true⟩ = false) := by show _ = _; rw [HTB.out]; rfl
        go_wp2_with fail
        go_quiet (fail)
        go_wp2
        exact ⟨⟨j + 1, by omega, by go_num, by rw [HSKN.out HB.out], HEND.out _ ((Keeps.alloc _ _ _).drN _) HB.out⟩, by simp only [intOf]; omega⟩
      | false =>
        by_cases hs : vs ≤ F
        · have hd : decide (F < vs) = false := decide_eq_false (by omega)
          go_wp2_with fail
          go_quiet (fail)
          go_wp2_with fail
          obtain ⟨cur, hcur⟩ : ∃ cur, cur = sweepTo al F j := ⟨_, rfl⟩
          have hcl : cur.length = al.length := by rw [hcur]; exact sweepTo_length al F j hj
          rw [← hcur] at HRW HLT HAT
          clear hcur
          have HBX : Hid (∀ W, Keeps (fun _ => False) (wA.alloc (.cells #[.int .i64 vs, .string vk, .string vv, .bool vg, .bool false] 152)) W → W.cell? ⟨R.b, 0, none⟩ = some (.slice (some ⟨g, 0, none⟩) al.length ca) ∧ W.cell? ⟨R.b, 2, none⟩ = some (.int .i64 F) ∧ W.cell? ⟨wA.heap.size, 0, none⟩ = some (.int .i64 vs) ∧ W.cell? ⟨wA.heap.size, 1, none⟩ = some (.string vk) ∧ W.cell? ⟨wA.heap.size, 3, none⟩ = some (.bool vg)) := fun W hW => by
            have hk := (Keeps.alloc (fun _ => False) wA (.cells #[.int .i64 vs, .string vk, .string vv, .bool vg, .bool false] 152)).tr hW (fun _ h => h)
            obtain ⟨b0, b1, b2, b3, b4⟩ := five_cells (heap_new wA (.cells #[.int .i64 vs, .string vk, .string vv, .bool vg, .bool false] 152))
            exact ⟨hk.cell (p := ⟨R.b, 0, none⟩) d0 (fun h => h), hk.cell (p := ⟨R.b, 2, none⟩) d2 (fun h => h), hW.cell (p := ⟨wA.heap.size, 0, none⟩) b0 (fun h => h), hW.cell (p := ⟨wA.heap.size, 1, none⟩) b1 (fun h => h), hW.cell (p := ⟨wA.heap.size, 3, none⟩) b3 (fun h => h)⟩
          have HFZ : Hid (∀ W, Keeps (fun _ => False) (wA.alloc (.cells #[.int .i64 vs, .string vk, .string vv, .bool vg, .bool false] 152)) W → W.frozen? ⟨g, j * 5 + 4, none⟩ = false) := fun W hW => (HRW.out.kept ((Keeps.alloc (fun _ => False) wA _).tr hW (fun _ h => h)) (fun _ _ h => h)).frozenAt _
          clear e0 e1 e2 e3 e4 d0 d2
          go_loopw [6, 7] (fun f i wi => ∃ k : Nat, k ≤ al.length ∧ i = .int .i64 k ∧ f = .bool (laterL (cur.take k) ⟨vs, ⟨vk, vv, vg⟩, false⟩ F) ∧ Keeps (fun _ => False) (wA.alloc (.cells #[.int .i64 vs, .string vk, .string vv, .bool vg, .bool false] 152)) wi) (fun _ i _ => al.length - (intOf i).toNat)
          case atStart => exact ⟨0, Nat.zero_le _, rfl, rfl, (Keeps.refl _ _).drN _⟩
          case round =>
            obtain ⟨k, hk, rfl, rfl, hKi⟩ := hrel
            obtain ⟨q0, q2, b0, b1, b3⟩ := HBX.out _ hKi
            have HKI := hid hKi
            have m1 := World.block_lt_of_cell? _ _ q0
            have m2 := World.block_lt_of_cell? _ _ b0
            have hwz : wA.heap.size ≤ wr.heap.size := Nat.le_of_lt m2
            have hgr : g < wr.heap.size := by omega
            have ne1 : ¬ (R.b = wr.heap.size) := by omega
            have ne2 : ¬ (wA.heap.size = wr.heap.size) := by
              have e : wA.heap.size < wr.heap.size := m2
              omega
            clear hKi
            by_cases hlk : k < al.length
            · obtain ⟨x, hx⟩ : ∃ x, cur[k]? = some x := ⟨cur[k]'(by omega), List.getElem?_eq_getElem (by omega)⟩
              obtain ⟨x0, x1, x2, x3, x4⟩ := ver_at HRW.out ((Keeps.alloc (fun _ => False) wA _).tr HKI.out (fun _ h => h)) hx
              have HNX : Hid (laterL (cur.take (k + 1)) ⟨vs, ⟨vk, vv, vg⟩, false⟩ F = (laterL (cur.take k) ⟨vs, ⟨vk, vv, vg⟩, false⟩ F || laterB ⟨vs, ⟨vk, vv, vg⟩, false⟩ F x)) := by
                show _ = _
                unfold laterL
                rw [take_next hx, List.any_append]
                simp
              generalize laterL (cur.take k) ⟨vs, ⟨vk, vv, vg⟩, false⟩ F = fb at *
              obtain ⟨xs, ⟨xk, xv, xg⟩, xt⟩ := x
              simp only at x0 x1 x2 x3 x4
              have HLB : Hid (laterB ⟨vs, ⟨vk, vv, vg⟩, false⟩ F ⟨xs, ⟨xk, xv, xg⟩, xt⟩ = (decide (xk = vk) && decide (vs < xs) && decide (xs ≤ F))) := hid rfl
              rw [HLB.out] at HNX
              clear hx HLB
              cases fb with
              | true =>
                have HN : Hid (laterL (cur.take (k + 1)) ⟨vs, ⟨vk, vv, vg⟩, false⟩ F = true) := by show _ = _; rw [HNX.out]; rfl
                go_wp2_with fail
                go_quiet (fail)
                go_wp2
                exact ⟨⟨k + 1, by omega, by go_num, by rw [HN.out], (HKI.out.al _).drN _⟩, by simp only [intOf]; omega⟩
              | false =>
                by_cases hke : xk = vk
                · subst hke
                  by_cases h1 : vs < xs
                  · by_cases h2 : xs ≤ F
                    · have HN : Hid (laterL (cur.take (k + 1)) ⟨vs, ⟨xk, vv, vg⟩, false⟩ F = true) := by show _ = _; rw [HNX.out]; simp [h1, h2]
                      go_wp2_with fail
                      go_quiet (fail)
                      go_wp2
                      exact ⟨⟨k + 1, by omega, by go_num, by rw [HN.out], (HKI.out.al _).drN _⟩, by simp only [intOf]; omega⟩
                    · have HN : Hid (laterL (cur.take (k + 1)) ⟨vs, ⟨xk, vv, vg⟩, false⟩ F = false) := by show _ = _; rw [HNX.out]; simp [h2]
                      have hd2 : decide (xs ≤ F) = false := decide_eq_false h2
                      go_wp2_with fail
                      go_quiet (fail)
                      go_wp2
                      exact ⟨⟨k + 1, by omega, by go_num, by rw [HN.out], (HKI.out.al _).drN _⟩, by simp only [intOf]; omega⟩
                  · have HN : Hid (laterL (cur.take (k + 1)) ⟨vs, ⟨xk, vv, vg⟩, false⟩ F = false) := by show _ = _; rw [HNX.out]; simp [h1]
                    have hd1 : decide (vs < xs) = false := decide_eq_false h1
                    go_wp2_with fail
                    go_quiet (fail)
                    go_wp2
                    exact ⟨⟨k + 1, by omega, by go_num, by rw [HN.out], (HKI.out.al _).drN _⟩, by simp only [intOf]; omega⟩
                · have HN : Hid (laterL (cur.take (k + 1)) ⟨vs, ⟨vk, vv, vg⟩, false⟩ F = false) := by show _ = _; rw [HNX.out]; simp [hke]
                  have hne : (xk.toList == vk.toList) = false := (Lib.bytes_beq_false_iff _ _).2 hke
                  clear hke
                  go_wp2_with fail
                  go_quiet (fail)
                  go_wp2
                  exact ⟨⟨k + 1, by omega, by go_num, by rw [HN.out], (HKI.out.al _).drN _⟩, by simp only [intOf]; omega⟩
            · have HLF : Hid (laterL (cur.take k) ⟨vs, ⟨vk, vv, vg⟩, false⟩ F = laterL al ⟨vs, ⟨vk, vv, vg⟩, false⟩ F) := by show _ = _; rw [List.take_of_length_le (by omega)]; exact HLT.out
              have fz := HFZ.out _ HKI.out
              have y4 := (ver_at HRW.out ((Keeps.alloc (fun _ => False) wA _).tr HKI.out (fun _ h => h)) HAT.out).2.2.2.2
              simp only at y4
              have HKA : Hid (Keeps (fun _ => False) wA wr) := hid ((Keeps.alloc (fun _ => False) wA _).tr HKI.out (fun _ h => h))
              have HTB2 : Hid (throwB al F ⟨vs, ⟨vk, vv, vg⟩, false⟩ = (laterL (cur.take k) ⟨vs, ⟨vk, vv, vg⟩, false⟩ F || vg)) := by show _ = _; rw [HTB.out, HLF.out, decide_eq_true hs]; rfl
              generalize laterL (cur.take k) ⟨vs, ⟨vk, vv, vg⟩, false⟩ F = fb at *
              cases fb with
              | true =>
                have HB : Hid (throwB al F ⟨vs, ⟨vk, vv, vg⟩, false⟩ = true) := by show _ = _; rw [HTB2.out]; rfl
                have hcb : (cn : Int) < 100000000000 := by omega
                have hjb : (j : Int) < 100000000000 := by omega
                have hjl : (j : Int) < al.length := by omega
                have hlk' : ¬ ((k : Int) < al.length) := by omega
                clear hm hs hd hnl hwz m1 m2 hgr ne1 ne2 b0 b1 b3 q2 hlk
                go_upto_region 14 with fail
                go_upto_region 15 with fail
                go_upto_region 16 with fail
                go_wp2
                exact ⟨⟨j + 1, by omega, by go_num, by rw [HTHN.out HB.out]; go_num, HEND2.out _ HKA.out HB.out⟩, by simp only [intOf]; omega⟩
              | false =>
                cases vg with
                | true =>
                  have HB : Hid (throwB al F ⟨vs, ⟨vk, vv, true⟩, false⟩ = true) := by show _ = _; rw [HTB2.out]; rfl
                  have hcb : (cn : Int) < 100000000000 := by omega
                  have hjb : (j : Int) < 100000000000 := by omega
                  have hjl : (j : Int) < al.length := by omega
                  have hlk' : ¬ ((k : Int) < al.length) := by omega
                  clear hm hs hd hnl hwz m1 m2 hgr ne1 ne2 b0 b1 q2 hlk
                  go_upto_region 14 with fail
                  go_upto_region 15 with fail
                  go_upto_region 16 with fail
                  go_wp2
                  exact ⟨⟨j + 1, by omega, by go_num, by rw [HTHN.out HB.out]; go_num, HEND2.out _ HKA.out HB.out⟩, by simp only [intOf]; omega⟩
                | false =>
                  have HB : Hid (throwB al F ⟨vs, ⟨vk, vv, false⟩, false⟩ = false) := by show _ = _; rw [HTB2.out]; rfl
                  go_wp2
                  exact ⟨⟨j + 1, by omega, by go_num, by rw [HSKN.out HB.out], HEND.out _ HKA.out HB.out⟩, by simp only [intOf]; omega⟩
        · have HB : Hid (throwB al F ⟨vs, ⟨vk, vv, vg⟩, false⟩ = false) := by show _ = _; rw [HTB.out, decide_eq_false hs]; rfl
          have hgt : F < vs := by omega
          go_wp2_with fail
          go_quiet (fail)
          go_wp2
          exact ⟨⟨j + 1, by omega, by go_num, by rw [HSKN.out HB.out], HEND.out _ ((Keeps.alloc _ _ _).drN _) HB.out⟩, by simp only [intOf]; omega⟩
    · have HF1 := hid (sweepTo_full al F hlt)
      have HF2 := hid (sweepNTo_full al F hlt)
      generalize sweepNTo al F j = cn at *
      go_wp2
      go_ret
      refine ⟨ret_int (by rw [HF2.out]), ?_⟩
      have := HC.out
      unfold RRep.sweeping at this
      unfold RRep.swept
      rw [← HAL.out] at this ⊢
      rw [HF1.out] at this
      exact this

end Go.Proofs.YtfcocbcihhdbkaaGreatDoor
