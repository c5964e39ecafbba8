import Derived.Test.YtpagenipflmlfaaGreatDoorM34
import Derived.Deep.DeepCutAuto
import Derived.Deep.CutBlock

/- Carried: the states. -/

namespace Go.Proofs.YtpagenipflmlfaaGreatDoor

open Go.RowKit Go.Shelf

def partV (o : Nat → Option Addr) (n c : Nat → Nat) : Array Value := #[.slice (o 0) (n 0) (c 0), .slice (o 1) (n 1) (c 1), .slice (o 2) (n 2) (c 2)]

theorem part_at {o : Nat → Option Addr} {n c : Nat → Nat} {k : Nat} (hk : k < 3) : (partV o n c)[k]? = some (.slice (o k) (n k) (c k)) := by
  match k, hk with
  | 0, _ => rfl
  | 1, _ => rfl
  | 2, _ => rfl

theorem car_first {w w1 : World} {b : Nat} {pv : Array Value} (h : HAt (fun k => k < w.heap.size) 0 w1 b Gst.zero) (hk : Keeps (fun _ => False) w w1) : ∃ ss pss vs G A, CarInv w b w1.heap.size pv 0 (.slice none 0 0) (.slice none 0 0) (w1.alloc (.cells pv 22)) ss pss vs G 0 A := by
  have hz := hk.size
  refine ⟨[], [], [], [w1.heap.size], Gst.zero, rfl, ⟨Row.nil _ _ _, Row.nil _ _ _, rfl, fun i hi => absurd hi (by simp), heap_new w1 _, fun g hg => by simp [Value.ownBlock] at hg, fun g hg => by simp [Value.ownBlock] at hg, fun v hv => (by cases hv), by simp, fun g hg => by simp at hg; subst hg; exact ⟨hz, by simp⟩, fun g hg => by simp [Value.ownBlock] at hg, fun g hg => by simp [Value.ownBlock] at hg⟩, ?_, ⟨rfl, rfl, rfl, fun k hk => (by cases hk), fun k v hv => (by cases hv), rfl, List.Pairwise.nil, fun s hs => (by cases hs), rfl⟩, by simp [Gst.zero], hk.al _⟩
  exact (h.more (Nat.zero_le _) (O' := fun j => j < w.heap.size ∨ j ∈ [w1.heap.size]) (fun j hj => hj.imp id (fun e => by simp at e; omega))).kept (Keeps.alloc (fun _ => False) _ _) (fun _ _ h => h.elim)

theorem state_nowC (y0 y1 y2 y3 y4 y5 : Int) (w : World) : (Instr.field 32 (.agg #[.int .i64 y0, .int .i64 y1, .int .i64 y2, .int .i64 y3, .int .i64 y4, .int .i64 y5]) 0).run Tryz.prog w = .ok (.int .i64 y0) w := by kernel_rfl

theorem Tryz.infoIntC : (Tryz.prog.info? 3).map (fun i => (i.zero, i.size, i.bytes)) = some (some (.int .i64 0), 1, 8) := by kernel_rfl

theorem Tryz.infoPairsC : (Tryz.prog.info? 36).map (fun i => (i.zero, i.size, i.bytes)) = some (some (.slice none 0 0), 1, 24) := by kernel_rfl

set_option maxRecDepth 100000 in
set_option maxHeartbeats 4000000 in
theorem carried_any (w : World) (o : Nat → Option Addr) (n c : Nat → Nat) (S : Nat → Nat → RawStep) (hS : ∀ i, i < 4 → StepsAt w (o i) (n i) (S i)) (hn : n 3 ≤ maxLen) (hg : Glob w) :
    Calls Tryz.prog 3 #[.slice (o 0) (n 0) (c 0), .slice (o 1) (n 1) (c 1), .slice (o 2) (n 2) (c 2), .slice (o 3) (n 3) (c 3)] w fun e w' => e = .returned (.bool true) ∧ Keeps (fun _ => False) w w' := by
  have HB := hid (begunG_any w)
  have HS := hid hS
  have HG := hid hg
  have HN3 := hid hn
  clear hS hg hn
  have hfn := state_nowC
  go_enter Tryz.func3, Tryz.ntmps3
  go_upto_block 0 with (go_at_call 4; go_must (refine (HB.out).mono ?_; rintro e w1 ⟨b, rfl, hb, s1, k1⟩))
  have HI := hid (car_first (pv := partV o n c) s1 k1)
  obtain ⟨pb, hpb⟩ : ∃ pb, pb = w1.heap.size := ⟨_, rfl⟩
  rw [← hpb] at HI ⊢
  clear s1 k1 HB hpb
  go_cut [10, 11, 13] (fun st wn i wc => (∃ z : Int, i = .int .i64 z) ∧ ∃ ss pss vs G A, CarInv w b pb (partV o n c) 3 st wn wc ss pss vs G 0 A)
  case first =>
    go_wp2_with fail
    go_loopw [10, 11, 13] (fun st wn i wr => ∃ k : Nat, k ≤ 3 ∧ i = .int .i64 k ∧ ∃ ss pss vs G A, CarInv w b pb (partV o n c) k st wn wr ss pss vs G 0 A) (fun _ _ i _ => (3 - intOf i).toNat)
    case atStart => exact ⟨0, by omega, rfl, HI.out⟩
    case round =>
      obtain ⟨k, hk, rfl, ss, pss, vs, G, A, hC⟩ := hrel
      clear HI
      by_cases hk3 : k < 3
      · obtain ⟨os, cs, rfl, -, -⟩ := hC.mem.states.form
        obtain ⟨ow, cw, rfl, -, -⟩ := hC.mem.wants.form
        have HC := hid hC
        have HK3 := hid hk3
        have hk3i : (k : Int) < 3 := by omega
        clear hC hk hk3
        obtain ⟨wo, rfl⟩ : ∃ wo, wo = wr := ⟨_, rfl⟩
        go_upto_block 2 with fail
        go_cut [14] from 54 to 115 (fun i wc => (∃ z : Int, i = .int .i64 z) ∧ ∃ j A, j ≤ 100000 ∧ CarInv w b pb (partV o n c) k (.slice os ss.length cs) (.slice ow vs.length cw) wc ss pss vs G j A)
        case first =>
          go_wp2_with fail
          go_loopw [14] (fun i wr => ∃ j : Nat, j ≤ 100000 ∧ i = .int .i64 j ∧ ∃ A, CarInv w b pb (partV o n c) k (.slice os ss.length cs) (.slice ow vs.length cw) wr ss pss vs G j A) (fun i _ => (100000 - intOf i).toNat)
          case atStart => exact ⟨0, by omega, rfl, _, HC.out⟩
          case round =>
            obtain ⟨j, hj, rfl, B, hB⟩ := hrel
            have q := (cell_of_heap hB.mem.parts k).trans (part_at HK3.out)
            have HB := hid hB
            have HJ := hid hj
            clear hB hj HC
            by_cases hlt : j < n k
            · by_cases hl2 : j < 100000
              · obtain ⟨b0, off, e0, hb0, q0, q1, q2, d1, d2, d3⟩ := (HS.out k (by have := HK3.out; omega)).kept HB.out.keep j hlt
                rw [e0] at q
                have HW := hid (writeG_any (S k j).what (S k j).key (S k j).value HB.out.st HB.out.room (by rw [HB.out.car.works]; simp) (by have := HB.out.now; have := HK3.out; omega) (by have := HK3.out; omega) d1 d2 d3)
                have HL2 := hid hl2
                have hl3 : (j : Int) < 100000 := by omega
                clear d1 d2 d3 hl2 e0
                generalize n k = nk at *
                generalize c k = ck at *
                go_wp2_with fail
                refine HW.out.mono ?_
                rintro e w2 hw2
                obtain ⟨rfl, A2, hA2⟩ := HB.out.wrote hw2
                have HA2 := hid hA2
                clear hw2 hA2 HW q q0 q1 q2
                go_wp2
                exact ⟨⟨j + 1, HL2.out, by go_num, _, HA2.out⟩, by have := HL2.out; simp only [intOf]; omega⟩
              · have hl3 : ¬ (j : Int) < 100000 := by omega
                clear hl2
                generalize n k = nk at *
                generalize c k = ck at *
                generalize o k = ok at *
                go_wp2
                go_meet
                exact ⟨⟨_, rfl⟩, _, _, HJ.out, HB.out⟩
            · generalize n k = nk at *
              generalize c k = ck at *
              generalize o k = ok at *
              go_wp2
              go_meet
              exact ⟨⟨_, rfl⟩, _, _, HJ.out, HB.out⟩
        case rest =>
          obtain ⟨⟨z, rfl⟩, j, A1, hj, hC1⟩ := hcut
          have HR := hid (car_round hC1.st hC1.room hC1.car HK3.out (by have := HK3.out; omega) (by have := hC1.now; have := HK3.out; omega))
          have HC1 := hid hC1
          have HJ := hid hj
          clear hC1 hj HC
          go_wp2_with fail
          refine HR.out.mono ?_
          rintro e w2 ⟨rfl, k2, m⟩
          have K2 := hid k2
          have HR2 := hid m
          clear k2 m HR
          go_wp2_with fail
          refine HR2.out.mono ?_
          rintro e w3 ⟨s, hs, ⟨x1, x2, x3, x4, x5, rfl⟩, k3, m⟩
          have K3 := hid k3
          have HSS := hid hs
          have HR3 := hid m
          clear k3 m HR2 hs
          go_wp2_with fail
          refine (HR3.out _ ((Keeps.refl _ _).al _)).mono ?_
          rintro e w4 ⟨rfl, k4, m⟩
          have HR4 := hid m
          clear k4 m HR3
          go_wp2_with fail
          refine HR4.out.mono ?_
          rintro e w5 ⟨ps, ov, cv, rfl, hRG⟩
          have HX : w5.cell? ⟨w3.heap.size, 0, none⟩ = some (.int .i64 (s : Int)) := hRG.keep.cell (p := ⟨w3.heap.size, 0, none⟩) ((cell_of_heap (heap_new w3 _) 0).trans rfl) (fun h => h (.inr ⟨Nat.le_refl _, by simp⟩))
          have HRG := hid hRG
          obtain ⟨i0, hi, hz0, hz1, hz2⟩ := info_parts Tryz.infoIntC
          have hm5 : CMem w pb (partV o n c) ss pss vs (.slice os ss.length cs) (.slice ow vs.length cw) G w5 := ((HC1.out.mem.kept K2.out (fun g hg hn => hn (.inr hg))).kept (K3.out.al _) (fun _ _ h => h)).kept hRG.keep (fun g hg hn => hn (.inl (.inr hg)))
          have HM5 := hid hm5
          have hsl : ss.length < 3 := by have := HC1.out.len; have := HK3.out; omega
          have hvl : vs.length < 3 := by
            have h1 := HC1.out.mem.many
            have h2 := congrArg List.length HC1.out.car.pairs
            rw [List.length_map] at h2
            omega
          have HSL := hid (And.intro hsl hvl)
          clear hRG HR4 hm5 hsl hvl
          go_upto_region 23 with (at_builtin; go_must (refine wpList_append_row _ rfl _ _ 25 rfl 3 i0 _ 1 8 Tryz.underlying25 hi hz0 hz1 hz2 rfl (.slice os ss.length cs) ss.length _ rfl (HM5.out.states.kept (Keeps.alloc (fun _ => False) _ _) (fun _ _ h => h)) ⟨w5.heap.size, 0, none⟩ 1 1 [.int .i64 (s : Int)] rfl rfl (news_arr w5 #[.int .i64 (s : Int)] _) (by simp [Value.oneCell']) (by have := HSL.out; unfold maxLen; omega) (by have := HSL.out; omega) ?_; intro v' w6 hown' hgrow _ hat; obtain ⟨g', cap', rfl⟩ := hown'.succ; have HO6 := hid hown'; have HG6 := hid hgrow; have HA6 := hid hat; clear hown' hgrow hat))
          have HW6 : Hid (Row w6 36 1 (.slice ow vs.length cw) vs.length vs) := (HM5.out.wants.kept (Keeps.alloc (fun _ => False) _ _) (fun _ _ h => h)).kept (Keeps.grown HG6.out) (fun g hg e => (HM5.out.apartS g e.symm).1 hg)
          obtain ⟨i1, hi1, hy0, hy1, hy2⟩ := info_parts Tryz.infoPairsC
          clear HX
          go_wp2_with (at_builtin; go_must (refine wpList_append_row _ rfl _ _ 26 rfl 36 i1 _ 1 24 Tryz.underlying26 hi1 hy0 hy1 hy2 rfl (.slice ow vs.length cw) vs.length _ rfl (HW6.out.kept (Keeps.alloc (fun _ => False) _ _) (fun _ _ h => h)) ⟨w6.heap.size, 0, none⟩ 1 1 [.slice ov ps.length cv] rfl rfl (news_arr w6 #[.slice ov ps.length cv] _) (by simp [Value.oneCell']) (by have := HSL.out; unfold maxLen; omega) (by have := HSL.out; omega) ?_; intro v' w7 hown' hgrow _ hat; obtain ⟨g7, cap7, rfl⟩ := hown'.succ; have HO7 := hid hown'; have HG7 := hid hgrow; have HA7 := hid hat; clear hown' hgrow hat))
          exact ⟨⟨k + 1, HK3.out, by go_num, CarInv.next HC1.out HJ.out HSS.out K2.out K3.out ((Keeps.refl _ _).al _) HRG.out ((Keeps.refl _ _).al _) HO6.out HG6.out HA6.out ((Keeps.refl _ _).al _) HO7.out HG7.out HA7.out⟩, by have := HK3.out; simp only [intOf]; omega⟩
      · have hk3i : ¬ (k : Int) < 3 := by omega
        have e : k = 3 := by omega
        subst e
        have HC := hid hC
        clear hC hk hk3
        go_wp2
        go_meet
        exact ⟨⟨_, rfl⟩, _, _, _, _, _, HC.out⟩
  case rest =>
    obtain ⟨⟨z, rfl⟩, ss, pss, vs, G, A, hC⟩ := hcut
    obtain ⟨T, V, gs, cs, gw, cw, rfl, rfl, hM, hP, hT, hT2⟩ := car_end hC
    have a01 := hT.h01
    have a12 := hT.h12
    have HC1 := hid (car_copy (full := true) (a := 0) (t := T 0) (L := tellS A T 0) (cap := c 3) hP a01 a12 (by omega) (fun _ h => h.t0) ⟨.inl ⟨rfl, rfl, Nat.le_refl _⟩, by omega⟩ (by omega) HG.out.turns (HS.out 3 (by omega)) HN3.out)
    have HC2 := hid (fun W N A' (hP' : CopSt w b G (T 0) (T 1) (T 2) (tellS A T 0) (tellS A T 1) (tellS A T 2) N A' W) (hN : N ≤ 100000000) => car_copy (full := false) (a := T 0) (t := T 1) (L := tellS A T 1) (cap := c 3) hP' a01 a12 (by omega) (fun _ h => h.t1) ⟨.inr ⟨rfl, Nat.le_refl _, a01⟩, by omega⟩ hN HG.out.turns (HS.out 3 (by omega)) HN3.out)
    have HC3 := hid (fun W N A' (hP' : CopSt w b G (T 0) (T 1) (T 2) (tellS A T 0) (tellS A T 1) (tellS A T 2) N A' W) (hN : N ≤ 100000000) => car_copy (full := false) (a := T 1) (t := T 2) (L := tellS A T 2) (cap := c 3) hP' a01 a12 (by omega) (fun _ h => h.t2) ⟨.inr ⟨rfl, by omega, a12⟩, by omega⟩ hN HG.out.turns (HS.out 3 (by omega)) HN3.out)
    have HM := hid hM
    have HT := hid hT
    have q0 := hM.st 0 (by omega)
    have HGLT := hid hP.low
    clear hC hM hP hT hT2 a01 a12 HI HS HN3
    generalize o 3 = o3 at *
    generalize n 3 = n3 at *
    generalize c 3 = c3 at *
    go_wp2_with fail
    refine HC1.out.mono ?_
    rintro e w2 ⟨rfl, k2, A2, hA2⟩
    have hM2 := HM.out.kept k2 (fun g hg hn => hn (.inr hg))
    have r0 := hM2.st 0 (by omega)
    have r1 := hM2.st 1 (by omega)
    have HM2 := hid hM2
    have HA2 := hid hA2
    have HGS : Hid (¬ ¬ (gs < w.heap.size ∨ gs ∈ G)) := fun h => h (.inr hM2.inS)
    clear HC1 k2 hA2 hM2 q0 HM
    go_wp2_with fail
    go_region_held3 (fun W => W.cell? ⟨gs, 0, none⟩ = some (.int .i64 (T 0 : Int)) ∧ W.cell? ⟨gs, 1, none⟩ = some (.int .i64 (T 1 : Int))) (go_keep) (first
      | (go_at_call 9; refine (HC2.out _ _ _ (HA2.out.kept (Keeps.drew _ _)) (by omega)).mono ?_; rintro e w3 ⟨rfl, k3, A3, hA3⟩; have k3' : Keeps (fun j => ¬ (j < w.heap.size ∨ j ∈ G)) w2 w3 := ((Keeps.refl (fun j => ¬ (j < w.heap.size ∨ j ∈ G)) w2).dr).tr k3 (fun _ h => h); have p0 := k3'.cell (p := ⟨gs, 0, none⟩) r0 HGS.out; have p1 := k3'.cell (p := ⟨gs, 1, none⟩) r1 HGS.out))
    have hM3 := HM2.out.kept k3' (fun g hg hn => hn (.inr hg))
    have t1 := hM3.st 1 (by omega)
    have t2 := hM3.st 2 (by omega)
    have HM3 := hid hM3
    have HA3 := hid hA3
    clear k3 k3' p0 p1 r0 r1 hA3 hM3 HM2 HA2 HC2
    go_wp2_with fail
    go_region_held3 (fun W => W.cell? ⟨gs, 1, none⟩ = some (.int .i64 (T 1 : Int)) ∧ W.cell? ⟨gs, 2, none⟩ = some (.int .i64 (T 2 : Int))) (go_keep) (first
      | (go_at_call 9; refine (HC3.out _ _ _ (HA3.out.kept (Keeps.drew _ _)) (by omega)).mono ?_; rintro e w4 ⟨rfl, k4, A4, hA4⟩; have k4' : Keeps (fun j => ¬ (j < w.heap.size ∨ j ∈ G)) w3 w4 := ((Keeps.refl (fun j => ¬ (j < w.heap.size ∨ j ∈ G)) w3).dr).tr k4 (fun _ h => h); have p1 := k4'.cell (p := ⟨gs, 1, none⟩) t1 HGS.out; have p2 := k4'.cell (p := ⟨gs, 2, none⟩) t2 HGS.out))
    have hM4 := HM3.out.kept k4' (fun g hg hn => hn (.inr hg))
    have HM4 := hid hM4
    have HK4 : Hid (Keeps (fun _ => False) w w4) := hA4.keep
    have hjj := HT.out.judges
    have HST := hid (r_start (w3 := w4) HT.out.ok (s := T 0) (L := tellS A T 0) rfl hjj.1 (text_size HT.out (k := 0) (by omega)) (HG.out.kept hA4.keep) (textsV A T))
    clear k4 k4' p1 p2 t1 t2 hA4 hM4 HM3 HA3 HC3 hjj HGS HGLT
    go_wp2_with fail
    refine HST.out.mono ?_
    rintro e w5 ⟨b2, rfl, k5, B, hB⟩
    have HBB := hid hB
    have HK5 := hid k5
    clear hB k5 HST
    go_upto_block 4 with fail
    obtain ⟨w6, hw6⟩ : ∃ w6, w6 = w5.alloc (.cells (textsV A T) 9) := ⟨_, rfl⟩
    have hw6' : w5.alloc (.cells #[.string (txtOf true 0 (T 0) (tellS A T 0)), .string (txtOf false (T 0) (T 1) (tellS A T 1)), .string (txtOf false (T 1) (T 2) (tellS A T 2))] 9) = w6 := hw6.symm
    rw [← hw6] at HBB
    rw [hw6']
    obtain ⟨tb, htb⟩ : ∃ tb, tb = w5.heap.size := ⟨_, rfl⟩
    rw [← htb] at HBB ⊢
    clear hw6 hw6' htb
    go_cut [30] (fun i wc => (∃ z : Int, i = .int .i64 z) ∧ ∃ B, RAt w4 b2 tb (textsV A T) A (T 2) 7000 B wc)
    case first =>
      go_wp2_with fail
      go_loopw [30] (fun i wr => ∃ k : Nat, k ≤ 3 ∧ i = .int .i64 k ∧ ∃ B, RAt w4 b2 tb (textsV A T) A (T (k - 1)) (1000 + 2000 * k) B wr) (fun i _ => (3 - intOf i).toNat)
      case atStart => exact ⟨0, by omega, rfl, B, HBB.out⟩
      case round =>
        obtain ⟨k, hk, rfl, B1, hB1⟩ := hrel
        clear HBB
        by_cases hk3 : k < 3
        · obtain ⟨ok, ck, hVk, -, -⟩ := (HM4.out.ls k hk3).form
          have HLS := hid (HM4.out.ls k hk3)
          rw [hVk] at HLS
          have HWN : Hid (∀ W, Keeps (fun _ => False) w4 W → W.cell? ⟨gw, k, none⟩ = some (.slice ok (A.pairs (T k : Int)).length ck) ∧ W.cell? ⟨gs, k, none⟩ = some (.int .i64 (T k : Int))) := fun W hW => ⟨by rw [← hVk]; exact hW.cell (HM4.out.wn k hk3) (fun h => h), hW.cell (HM4.out.st k hk3) (fun h => h)⟩
          have HGL := hid (HG.out.kept HK4.out)
          have hk3i : (k : Int) < 3 := by omega
          have HK3 := hid hk3
          have HASK := hid (fun (N : Nat) (B2 : Gst) (W : World) (h : RAt w4 b2 tb (textsV A T) A (T k) N B2 W) (hN : N ≤ 100000000) => r_asks HT.out.ok h (ps := A.pairs (T k : Int)) rfl HLS.out hN)
          generalize (A.pairs (T k : Int)).length = ln at *
          clear HLS hVk hk hk3
          by_cases h0 : 0 < k
          · have hap := text_apply (k := k - 1) HT.out (by have := HK3.out; omega) hB1 HGL.out (by have := HK3.out; omega)
            rw [Nat.sub_add_cancel h0] at hap
            have ct := (cell_of_heap hB1.txt k).trans (text_at HK3.out)
            have HAP := hid hap
            have h0i : (0 : Int) < (k : Int) := by omega
            clear hap hB1
            generalize textS A T k = tk at *
            go_wp2_with fail
            refine HAP.out.mono ?_
            rintro e w7 ⟨rfl, B2, hB2⟩
            have HA1 := hid (HASK.out _ _ _ hB2 (by have := HK3.out; omega))
            clear HAP hB2 ct
            go_wp2_with fail
            refine HA1.out.mono ?_
            rintro e w8 ⟨o8, c8, rfl, m⟩
            have HA2 := hid m
            clear m HA1
            go_wp2_with fail
            refine HA2.out.mono ?_
            rintro e w9 ⟨⟨y1, y2, y3, y4, y5, rfl⟩, k9, m⟩
            have HA3 := hid m
            obtain ⟨cw9, cs9⟩ := HWN.out _ k9
            clear m HA2 k9
            go_wp2_with fail
            refine HA3.out.mono ?_
            rintro e w10 ⟨rfl, B3, hB3⟩
            obtain ⟨cw10, cs10⟩ := HWN.out _ hB3.keep
            have HB3 := hid hB3
            clear hB3 HA3 cw9 cs9
            go_wp2
            exact ⟨⟨k + 1, HK3.out, by go_num, B3, HB3.out.more (by have := HK3.out; omega)⟩, by have := HK3.out; simp only [intOf]; omega⟩
          · have e : k = 0 := by omega
            subst e
            have HA1 := hid (HASK.out _ _ _ hB1 (by omega))
            clear hB1 h0
            go_wp2_with fail
            refine HA1.out.mono ?_
            rintro e w8 ⟨o8, c8, rfl, m⟩
            have HA2 := hid m
            clear m HA1
            go_wp2_with fail
            refine HA2.out.mono ?_
            rintro e w9 ⟨⟨y1, y2, y3, y4, y5, rfl⟩, k9, m⟩
            have HA3 := hid m
            obtain ⟨cw9, cs9⟩ := HWN.out _ k9
            clear m HA2 k9
            go_wp2_with fail
            refine HA3.out.mono ?_
            rintro e w10 ⟨rfl, B3, hB3⟩
            obtain ⟨cw10, cs10⟩ := HWN.out _ hB3.keep
            have HB3 := hid hB3
            clear hB3 HA3 cw9 cs9
            go_wp2
            exact ⟨⟨0 + 1, HK3.out, by go_num, B3, HB3.out.more (by have := HK3.out; omega)⟩, by have := HK3.out; simp only [intOf]; omega⟩
        · have hk3i : ¬ (k : Int) < 3 := by omega
          have e : k = 3 := by omega
          subst e
          have HB1 := hid hB1
          clear hB1 hk hk3
          go_wp2
          go_meet
          exact ⟨⟨_, rfl⟩, B1, HB1.out⟩
    case rest =>
      obtain ⟨⟨z2, rfl⟩, B2, hB2⟩ := hcut
      have kc := hB2.keep
      have gc := (HG.out.kept HK4.out).kept kc
      obtain ⟨ok, ck, hVk, -, -⟩ := (HM4.out.ls 2 (by omega)).form
      have hls := (HM4.out.ls 2 (by omega)).kept kc (fun _ _ h => h)
      rw [hVk] at hls
      have HWN : Hid (∀ W, Keeps (fun _ => False) wc W → W.cell? ⟨gw, 2, none⟩ = some (.slice ok (A.pairs (T 2 : Int)).length ck)) := fun W hW => by rw [← hVk]; exact hW.cell (kc.cell (HM4.out.wn 2 (by omega)) (fun h => h)) (fun h => h)
      have z0 := text_size HT.out (k := 0) (by omega)
      have z1 := text_size HT.out (k := 1) (by omega)
      have z2' := text_size HT.out (k := 2) (by omega)
      have HMG1 := hid (merge3_any (txtOf true 0 (T 0) (tellS A T 0)) (txtOf false (T 0) (T 1) (tellS A T 1)) (txtOf false (T 1) (T 2) (tellS A T 2)) (txtOf true 0 (T 2) (A.lastL (T 2))) tb wc hB2.txt gc z0 z1 z2' (merge_three HT.out))
      have HMG2 := hid (fun W (hW : Keeps (fun _ => False) wc W) => merge2_any (txtOf false (T 0) (T 1) (tellS A T 1)) (txtOf false (T 1) (T 2) (tellS A T 2)) (txtOf false (T 0) (T 2) (bothL (tellS A T 1) (tellS A T 2))) W (gc.kept hW) z1 z2' (merge_deltas HT.out))
      have HMG3 := hid (fun W (hW : Keeps (fun _ => False) wc W) => merge2_any (txtOf true 0 (T 0) (tellS A T 0)) (txtOf false (T 0) (T 2) (bothL (tellS A T 1) (tellS A T 2))) (txtOf true 0 (T 2) (A.lastL (T 2))) W (gc.kept hW) z0 (both_size HT.out) (merge_again HT.out))
      have HEND := hid (fun W (hW : Keeps (fun _ => False) wc W) => m_end (wr := W) HT.out.ok (s := T 2) HT.out.judges.2.2.2 (last_size HT.out) (gc.kept hW) (ps := A.pairs (T 2 : Int)) rfl)
      have HLS := hid hls
      have HKC : Hid (Keeps (fun _ => False) w wc) := HK4.out.tr kc (fun _ h => h)
      clear hB2 gc hls hVk z0 z1 z2' HM4 kc HG HK4 HK5 HBB
      generalize txtOf true 0 (T 2) (A.lastL (T 2)) = m at *
      generalize txtOf false (T 0) (T 2) (bothL (tellS A T 1) (tellS A T 2)) = d at *
      generalize txtOf true 0 (T 0) (tellS A T 0) = ta at *
      generalize txtOf false (T 0) (T 1) (tellS A T 1) = tb1 at *
      generalize txtOf false (T 1) (T 2) (tellS A T 2) = tc at *
      generalize A.pairs (T 2 : Int) = ps at *
      go_wp2_with fail
      refine HMG1.out.mono ?_
      rintro e w7 ⟨rfl, k7⟩
      have HM2 := hid (HMG2.out w7 k7)
      have HK7 := hid k7
      clear HMG1 HMG2 k7
      go_wp2_with fail
      refine HM2.out.mono ?_
      rintro e w8 ⟨rfl, k8⟩
      have HK8 := hid (HK7.out.tr k8 (fun _ h => h))
      have HM3 := hid (HMG3.out w8 HK8.out)
      clear HM2 HMG3 k8
      go_wp2_with fail
      refine HM3.out.mono ?_
      rintro e w9 ⟨rfl, k9⟩
      have HK9 := hid (HK8.out.tr k9 (fun _ h => h))
      have HE1 := hid (HEND.out w9 HK9.out)
      clear HM3 HEND k9
      go_wp2_with fail
      refine HE1.out.mono ?_
      rintro e w10 ⟨b3, rfl, mm⟩
      have HE2 := hid mm
      clear mm HE1
      go_wp2_with fail
      refine HE2.out.mono ?_
      rintro e w11 ⟨o5, c5, rfl, k11, mm⟩
      have HE3 := hid (mm _ (HLS.out.kept HK9.out (fun _ _ h => h)))
      have cw11 := HWN.out w11 (HK9.out.tr k11 (fun _ h => h))
      clear mm HE2 k11
      go_wp2_with fail
      refine HE3.out.mono ?_
      rintro e w12 ⟨rfl, k12⟩
      have HK12 := hid (HKC.out.tr (HK9.out.tr k12 (fun _ h => h)) (fun _ h => h))
      clear k12 HE3 cw11
      go_wp2
      go_ret
      exact ⟨rfl, HK12.out⟩

end Go.Proofs.YtpagenipflmlfaaGreatDoor

/- The statement Carried, lifted to all that comes in. -/

namespace Go.Proofs.YtpagenipflmlfaaGreatDoor

open Go.ChangeShapes Go.WideShapes Go.ChangeAt Go.RowKit Go.Deep

theorem Tryz.own : ownKnob Tryz.prog.godebug = none := by kernel_rfl

theorem Tryz.laidOut : laidOutB Tryz.prog = true := by kernel_rfl

theorem Tryz.cellsStep : Tryz.prog.cellsOf 30 = 3 := by kernel_rfl

theorem Tryz.cellsInt : Tryz.prog.cellsOf 3 = 1 := by kernel_rfl

theorem Tryz.cellsString : Tryz.prog.cellsOf 9 = 1 := by kernel_rfl

theorem wf_i64 {n : Int} (h : (Lit.int .i64 n).wf = true) : -9223372036854775808 ≤ n ∧ n ≤ 9223372036854775807 := by
  have := bounds_i64 h
  omega

set_option maxRecDepth 100000 in
/-- A list of raw steps that came in. -/
theorem steps_open {H : Type} {enc : TypeId × Value → H} {W : World} {base : Nat} {spare : Nat → Bool} {held : Bool} {fuel len0 cap0 : Nat} {a0 : Option Addr} {x : DataW H × List MemPlace}
    (h : DataW.trod enc Tryz.prog W base spare held fuel 22 [.slice a0 len0 cap0] = some x) : ∃ S, StepsAt W a0 len0 S ∧ len0 ≤ maxLen := by
  rcases open_slice Tryz.underlying22 h with ⟨hcs, _⟩ | ⟨a, len, cap, m, n, D, Pl, hcs, _, hl, hm, hmm, _, hel⟩
  · simp at hcs
    obtain ⟨rfl, rfl, rfl⟩ := hcs
    exact ⟨fun _ => ⟨0, 0, ByteArray.empty⟩, fun i hi => absurd hi (Nat.not_lt_zero _), Nat.zero_le _⟩
  · simp at hcs
    obtain ⟨rfl, rfl, rfl⟩ := hcs
    have hlm : len0 ≤ m := by rw [hmm]; split <;> omega
    have each : ∀ i, i < len0 → ∃ s : RawStep, W.cell? (a.add (i * 3)) = some (.int .i64 s.what) ∧ W.cell? (a.add (i * 3 + 1)) = some (.int .i64 s.key) ∧ W.cell? (a.add (i * 3 + 2)) = some (.string s.value) ∧
        (-9223372036854775808 ≤ s.what ∧ s.what ≤ 9223372036854775807) ∧ (-9223372036854775808 ≤ s.key ∧ s.key ≤ 9223372036854775807) ∧ s.value.size ≤ maxLen := by
      intro i hi
      obtain ⟨cs', h1, h2⟩ := hel i (by omega)
      rw [Tryz.cellsStep] at h1
      obtain ⟨_, hlen, hcell⟩ := World.cells?_some h1
      obtain ⟨xs, k, hk, hxy, _, hxl, hf⟩ := DataW.trod_struct Tryz.underlying30 h2
      match xs, hxl, cs', hlen with
      | [y0, y1, y2], _, [v0, v1, v2], _ =>
        have g0 := hf 0 _ rfl
        have g1 := hf 1 _ rfl
        have g2 := hf 2 _ rfl
        simp [Tryz.cellsInt, Tryz.cellsString] at g0 g1 g2
        have e0 := hcell 0 (by omega)
        have e1 := hcell 1 (by omega)
        have e2 := hcell 2 (by omega)
        rw [add_add] at e0 e1 e2
        obtain ⟨n0, c0, _, w0⟩ := DataW.trod_int Tryz.underlying3 g0
        obtain ⟨n1, c1, _, w1⟩ := DataW.trod_int Tryz.underlying3 g1
        obtain ⟨s2, c2, _, w2⟩ := DataW.trod_string Tryz.underlying9 g2
        simp at c0 c1 c2
        subst c0 c1 c2
        exact ⟨⟨n0, n1, s2⟩, by simpa using e0, by simpa using e1, by simpa using e2, wf_i64 w0, wf_i64 w1, w2⟩
    obtain ⟨S, hS⟩ := @choose_lt RawStep ⟨⟨0, 0, ByteArray.empty⟩⟩ len0 _ each
    refine ⟨S, fun i hi => ?_, by omega⟩
    obtain ⟨b, off, spot⟩ := a
    have hspot : spot = none := by
      have h0 := (hS 0 (by omega)).1
      simpa [Addr.add] using World.cell?_spot h0
    subst hspot
    have ea : ∀ j, (⟨b, off, none⟩ : Addr).add j = ⟨b, off + j, none⟩ := fun j => by
      unfold Addr.add
      by_cases hj : j = 0
      · simp [hj]
      · simp [hj]
    obtain ⟨q0, q1, q2, d⟩ := hS i hi
    rw [ea] at q0 q1 q2
    exact ⟨b, off, rfl, World.block_lt_of_cell? _ _ q0, q0, q1, q2, d⟩

/-- an error's text -/
def sentB : DataW Unit → ByteArray
  | .iface _ (.ptr (.agg [.lit (.string bs)])) => ⟨bs.toArray⟩
  | _ => ⟨#[]⟩

/-- a table's numbers -/
def tabV : DataW Unit → List Value
  | .agg l => l.map fun
    | .lit (.int k n) => .int k n
    | _ => .int .u32 0
  | _ => []

def putVar (P : Program) (h : Array Obj) (name : String) (cs : Array Value) : Array Obj := match P.globalNamed name with
  | some g => h.modify g fun
    | .cells _ t frozen => .cells cs t frozen
    | o => o
  | none => h

/-- the settled world, with a block for each error, the variables laid -/
def laidWorld (P : Program) (laid : List (String × DataW Unit)) (turns : DataW Unit) (os : Os) : World :=
  let N := (World.settled P os).heap.size
  let L := laid.drop 2
  let w0 := World.holding P os ⟨(L.map fun x => Obj.cells #[.string (sentB x.2)] 293).toArray, #[], []⟩
  let h0 := putVar P w0.heap "errors.errorType" #[.iface 214 (.agg #[.pointer (some ⟨16, 141, none⟩)])]
  let h1 := putVar P h0 "annals/stream.turns" (tabV turns).toArray
  { w0 with heap := L.zipIdx.foldl (fun h x => putVar P h x.1.1 #[.iface 275 (.pointer (some ⟨N + x.2, 0, none⟩))]) h1 }

theorem laid_met (os : Os) (args : Array Value) : laidMetH Tryz.prog Rows.carriedRow.laid ((laidWorld Tryz.prog Rows.carriedRow.laid Rows.laid_annals_stream_turns os).forCall (fun _ _ => 0) ⟨#[], args, []⟩).memory :=
  laidMetH_of_parts (laidMet_of_run' 8 (by kernel_rfl) (by kernel_rfl)) (by kernel_rfl)

def four {α : Type} (a b c d : α) : Nat → α
  | 0 => a
  | 1 => b
  | 2 => c
  | _ => d

theorem carried_reads (os : Os) {H : Type} (enc : TypeId × Value → H) : ∃ places, DataW.whole enc Tryz.prog ((laidWorld Tryz.prog Rows.carriedRow.laid Rows.laid_annals_stream_turns os).forCall (fun _ _ => 0) ⟨#[], #[.slice none 0 0, .slice none 0 0, .slice none 0 0, .slice none 0 0], []⟩).memory Tryz.f3.params.toList Rows.carriedSpec.vars false #[Value.slice none 0 0, .slice none 0 0, .slice none 0 0, .slice none 0 0].toList 8 = some ([.nil, .nil, .nil, .nil], [], places) :=
  ⟨[], by kernel_rfl⟩

set_option maxRecDepth 100000 in
theorem carried_lifted (os : Os) (started : os.Started) (H : Type) (enc : TypeId × Value → H) (F : Stop.Interp) :
    ReturnsInHanded {} Tryz.checked os 3 .any ((OpenSpec.ofChange Rows.carriedSpec).preRow enc Tryz.prog Tryz.f3 Rows.carriedRow.domain false Rows.carriedRow.laid) (((OpenSpec.ofChange Rows.carriedSpec).at F).post enc Tryz.prog Tryz.f3 false true false false) := by
  obtain ⟨places, hx⟩ := carried_reads os enc
  refine returnsInHanded_of_row (C := Tryz.checked) (s := OpenSpec.ofChange Rows.carriedSpec) Tryz.own started (by kernel_rfl) Tryz.func3
    (witness_row_atRef (enc := enc) (C := Tryz.checked) false (laidWorld Tryz.prog Rows.carriedRow.laid Rows.laid_annals_stream_turns os) #[.slice none 0 0, .slice none 0 0, .slice none 0 0, .slice none 0 0] rfl (by kernel_rfl) (by kernel_rfl) (by kernel_rfl)
      (OpenSpec.preRow_of_cond 8 hx (by kernel_rfl) (fun k hk => by cases hk) (by kernel_rfl) (laid_met os _))) ?_
  intro W base args ds gs before hval0 hW _ _ _ hlaid _ _
  have hval : ∀ (j : Nat) t v, Tryz.f3.params[j]? = some t → args[j]? = some v → Value.okWide Tryz.prog W .any base t v := hval0
  have hW' := hW
  obtain ⟨p, q, hA0, hV, rfl, hfz, hnd⟩ := hW
  have hA : DataW.TrodAll enc Tryz.prog W 0 (fun _ => true) true Tryz.f3.params.toList args.toList ds p := hA0
  rw [Tryz.params3] at hA hval
  obtain ⟨v0, vs0, d0, ds0, p0, q0, hargs, rfl, rfl, h0, r0⟩ := trodAll_cons hA
  obtain ⟨v1, vs1, d1, ds1, p1, q1, rfl, rfl, rfl, h1, r1⟩ := trodAll_cons r0
  obtain ⟨v2, vs2, d2, ds2, p2, q2, rfl, rfl, rfl, h2, r2⟩ := trodAll_cons r1
  obtain ⟨v3, vs3, d3, ds3, p3, q3, rfl, rfl, rfl, h3, r3⟩ := trodAll_cons r2
  obtain ⟨rfl, rfl, rfl⟩ := trodAll_nil r3
  obtain rfl : args = #[v0, v1, v2, v3] := by cases args; simp_all
  obtain ⟨rfl, rfl⟩ := trodVars_none hV
  obtain ⟨a0, len0, cap0, rfl⟩ := okWide_slice Tryz.underlying22 (hval 0 22 v0 rfl rfl)
  obtain ⟨a1, len1, cap1, rfl⟩ := okWide_slice Tryz.underlying22 (hval 1 22 v1 rfl rfl)
  obtain ⟨a2, len2, cap2, rfl⟩ := okWide_slice Tryz.underlying22 (hval 2 22 v2 rfl rfl)
  obtain ⟨a3, len3, cap3, rfl⟩ := okWide_slice Tryz.underlying22 (hval 3 22 v3 rfl rfl)
  have k0 := h0
  have k1 := h1
  have k2 := h2
  have k3 := h3
  have lt0 : ∀ x ∈ p0, x.block < W.heap.size := by obtain ⟨m, hm⟩ := k0; exact DataW.trod_lt m _ _ _ hm
  have lt1 : ∀ x ∈ p1, x.block < W.heap.size := by obtain ⟨m, hm⟩ := k1; exact DataW.trod_lt m _ _ _ hm
  have lt2 : ∀ x ∈ p2, x.block < W.heap.size := by obtain ⟨m, hm⟩ := k2; exact DataW.trod_lt m _ _ _ hm
  have lt3 : ∀ x ∈ p3, x.block < W.heap.size := by obtain ⟨m, hm⟩ := k3; exact DataW.trod_lt m _ _ _ hm
  obtain ⟨S0, t0, -⟩ : ∃ S, StepsAt W a0 len0 S ∧ len0 ≤ maxLen := by
    obtain ⟨fuel, hf⟩ := h0
    exact steps_open (by simpa [Value.cells] using hf)
  obtain ⟨S1, t1, -⟩ : ∃ S, StepsAt W a1 len1 S ∧ len1 ≤ maxLen := by
    obtain ⟨fuel, hf⟩ := h1
    exact steps_open (by simpa [Value.cells] using hf)
  obtain ⟨S2, t2, -⟩ : ∃ S, StepsAt W a2 len2 S ∧ len2 ≤ maxLen := by
    obtain ⟨fuel, hf⟩ := h2
    exact steps_open (by simpa [Value.cells] using hf)
  obtain ⟨S3, t3, m3⟩ : ∃ S, StepsAt W a3 len3 S ∧ len3 ≤ maxLen := by
    obtain ⟨fuel, hf⟩ := h3
    exact steps_open (by simpa [Value.cells] using hf)
  clear hA0 hval0
  have hS : ∀ i, i < 4 → StepsAt W (four a0 a1 a2 a3 i) (four len0 len1 len2 len3 i) (four S0 S1 S2 S3 i) := fun i hi => by
    rcases (show i = 0 ∨ i = 1 ∨ i = 2 ∨ i = 3 by omega) with e | e | e | e <;> subst e
    · exact t0
    · exact t1
    · exact t2
    · exact t3
  refine (carried_any W (four a0 a1 a2 a3) (four len0 len1 len2 len3) (four cap0 cap1 cap2 cap3) (four S0 S1 S2 S3) hS m3 (glob_of_laid hlaid)).mono fun e W' ⟨he, hk⟩ => ?_
  subst he
  have bel : Below W.heap.size W W' := hk.toBelow (Nat.le_refl _) (fun _ _ h => h)
  exact ⟨_, rfl, _, _, _, [], _, [], hW', trodAll_mk1 (shut_bool Tryz.underlying4 _), (trodAll_cons_mk (Below.trod Tryz.laidOut (by kernel_rfl) (of_decide_eq_true (by kernel_rfl)) k0 bel lt0) (trodAll_cons_mk (Below.trod Tryz.laidOut (by kernel_rfl) (of_decide_eq_true (by kernel_rfl)) k1 bel lt1) (trodAll_cons_mk (Below.trod Tryz.laidOut (by kernel_rfl) (of_decide_eq_true (by kernel_rfl)) k2 bel lt2) (trodAll_cons_mk (Below.trod Tryz.laidOut (by kernel_rfl) (of_decide_eq_true (by kernel_rfl)) k3 bel lt3) trodAll_mk0)))), rfl, bel.frame _, fun h => by cases h⟩

end Go.Proofs.YtpagenipflmlfaaGreatDoor
