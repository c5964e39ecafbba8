/- First: of two works that begin at one state the first to be committed is. -/
import Derived.Test.YtfcocbcihhdbkaaT7
import Derived.Deep.DeepCutAuto
import Derived.Deep.CutBlock
namespace Go.Proofs.Ytfcocbcihhdbkaa
open Go.RowKit Go.Shelf

theorem Try.infoBool : (Try.prog.info? 4).map (fun i => (i.zero, i.size, i.bytes)) = some (some (.bool false), 1, 1) := by kernel_rfl
theorem Try.infoString : (Try.prog.info? 9).map (fun i => (i.zero, i.size, i.bytes)) = some (some (.string ⟨#[]⟩), 1, 16) := by kernel_rfl

set_option maxRecDepth 100000 in
set_option maxHeartbeats 2000000 in
theorem first_any (w : World) (o0 o1 o2 : Option Addr) (n0 n1 n2 c0 c1 c2 : Nat) (S0 S1 S2 : Nat → RawStep) (h0 : StepsAt w o0 n0 S0) (h1 : StepsAt w o1 n1 S1) (h2 : StepsAt w o2 n2 S2) (hn1 : n1 ≤ maxLen) (hn2 : n2 ≤ maxLen) :
    Calls Try.prog 3 #[.slice o0 n0 c0, .slice o1 n1 c1, .slice o2 n2 c2] w fun e w' => e = .returned (.bool true) ∧ Keeps (fun _ => False) w w' := by
  unfold maxLen at hn1 hn2
  have HB := hid (begun_any w)
  have H0 := hid h0
  have H1 := hid h1
  have H2 := hid h2
  clear h0 h1 h2
  go_enter Try.func3, Try.ntmps3
  go_upto_block 0 with (go_at_call 5; go_must (refine (HB.out).mono ?_; rintro e w1 ⟨b, rfl, hb, s1, k1⟩))
  go_cut [8] (fun i wc => (∃ z : Int, i = .int .i64 z) ∧ FirstBefore w b wc)
  case first =>
    go_wp2_with fail
    go_loopw [8] (fun i wr => ∃ k : Nat, k ≤ 100000 ∧ i = .int .i64 k ∧ FirstBeforeAt w b k wr) (fun i _ => (100000 - intOf i).toNat)
    case atStart => exact ⟨0, by omega, rfl, Abs.zero, s1, rfl, rfl, rfl, k1⟩
    case round =>
      obtain ⟨k, hk, rfl, A, sA, a1, a2, a3, kA⟩ := hrel
      have HA := hid (And.intro a1 (And.intro a2 a3))
      have HF : Hid (FirstBefore w b wr) := ⟨A, sA, a1, by omega, by omega, kA⟩
      clear s1 k1 HB
      by_cases hlt : k < n0
      · by_cases hl2 : k < 100000
        · obtain ⟨b0, off, rfl, hb0, q0, q1, q2, d1, d2, d3⟩ := H0.out.kept kA k hlt
          have HW := hid (lawWrite_any (S0 k).what (S0 k).key (S0 k).value sA (fun j hj => Nat.lt_of_lt_of_le hj kA.size) (by rw [a1]; simp) (by omega) (by omega) d1 d2 d3)
          have KA := hid kA
          have HL2 := hid hl2
          have hl3 : (k : Int) < 100000 := by omega
          clear d1 d2 d3 a1 a2 a3 sA kA hl2 hk
          go_wp2_with (go_at_call 6; go_must (refine (HW.out).mono ?_; rintro e w2 hw2; obtain ⟨rfl, hw3⟩ := firstBefore_step HA.out KA.out hw2; have HW3 := hid hw3; clear hw2 hw3))
          exact ⟨⟨k + 1, HL2.out, by go_num, HW3.out⟩, by have := HL2.out; simp only [intOf]; omega⟩
        · have hl3 : ¬ (k : Int) < 100000 := by omega
          clear sA kA a1 a2 a3 hl2 hk HA H0 H1 H2
          go_wp2
          go_meet
          exact ⟨⟨_, rfl⟩, HF.out⟩
      · clear sA kA a1 a2 a3 hk HA H0 H1 H2
        go_wp2
        go_meet
        exact ⟨⟨_, rfl⟩, HF.out⟩
  case rest =>
    obtain ⟨⟨z, rfl⟩, A, sA, a1, a2, a3, kA⟩ := hcut
    clear H0 HB s1 k1
    have hS := sA.sound
    have HSND := hid hS
    have HB1 := hid (begin_s sA (fun j hj => Nat.lt_of_lt_of_le hj kA.size) (by rw [a1]; simp) (by omega))
    have KA := hid kA
    have HA := hid a1
    clear sA kA a1 hS
    go_wp2_with fail
    refine (HB1.out).mono ?_
    rintro e w2 ⟨rfl, s2, k2⟩
    have HB2 := hid (begin_two s2 (Nat.le_trans KA.out.size k2.size) HA.out a3)
    have K2 := hid (KA.out.trans k2 (fun j hj h => h hj))
    clear HB1 s2 k2
    go_wp2_with fail
    refine (HB2.out).mono ?_
    rintro e w3 ⟨rfl, s3, k3⟩
    have K3 := hid (K2.out.trans k3 (fun j hj h => h hj))
    have HS3 := hid s3
    clear HB2 s3 k3
    have hmk : (Instr.makeSlice 32 (.int .i64 12) (.int .i64 12)).run Try.prog w3 = .ok (.slice (some ⟨w3.heap.size, 0, none⟩) 12 12) (w3.alloc (.cells (madeCells #[.string ⟨#[]⟩] 12) 9)) := run_make_row' (P := Try.prog) 32 9 (.string ⟨#[]⟩) 16 Try.underlying32 Try.infoString rfl .i64 .i64 12 (by decide) (by decide) w3
    go_upto_block 2 with fail
    clear hmk
    go_cut [14, 18] (fun v i wc => (∃ z : Int, i = .int .i64 z) ∧ ∃ g cap, v = .slice (some ⟨g, 0, none⟩) 12 cap ∧ Mid w b g cap w3.heap.size A [] [] (List.replicate 12 false) (List.replicate 12 ByteArray.empty) wc)
    case first =>
      obtain ⟨i0, hi, hz0, hz1, hz2⟩ := info_parts Try.infoBool
      go_wp2_with fail
      go_loopw [14, 18] (fun v i wr => ∃ k : Nat, k ≤ 12 ∧ i = .int .i64 k ∧ MineAt (w3.alloc (.cells (madeCells #[.string ⟨#[]⟩] 12) 9)) v k wr) (fun _ i _ => (12 - intOf i).toNat)
      case atStart => exact ⟨0, by omega, rfl, Row.nil _ _ _, fun g hg => by simp [Value.ownBlock] at hg, Keeps.refl _ _⟩
      case round =>
        obtain ⟨k, hk, rfl, hM⟩ := hrel
        have HM := hid hM
        have hrow := hM.1
        clear hM
        by_cases hlt : k < 12
        · go_wp2_with (first | (at_builtin; go_must (refine wpList_append_row _ rfl _ _ 31 rfl 4 i0 (.bool false) 1 1 Try.underlying31 hi hz0 hz1 hz2 rfl _ k _ rfl (HM.out.1.kept (Keeps.alloc (fun _ => False) _ _) (fun _ _ h => h)) ⟨wr.heap.size, 0, none⟩ 1 1 [.bool false] rfl rfl (cell_one_new _ _ _) (by simp [Value.oneCell']) (by unfold maxLen; omega) (by omega) ?_; intro v' w5 hown' hgrow _ hat; have HM5 := hid (mine_step HM.out hown' hgrow hat); clear hown' hgrow hat)) | fail)
          exact ⟨⟨k + 1, by omega, by go_num, HM5.out⟩, by simp only [intOf]; omega⟩
        · have e : k = 12 := by omega
          subst e
          obtain ⟨g, cap, hv⟩ := HM.out.1.succ
          subst hv
          have HMID := hid (mid_start HS3.out K3.out HM.out)
          clear hrow
          go_wp2
          go_meet
          exact ⟨⟨_, rfl⟩, g, cap, rfl, HMID.out⟩
    case rest =>
      obtain ⟨⟨z2, rfl⟩, g, cap, rfl, hMid⟩ := hcut
      have HM := hid hMid
      clear hMid HS3 K3 K2 KA
      go_upto_block 4 with fail
      generalize w3.heap.size = l at *
      go_cut [19] (fun i wc => (∃ z : Int, i = .int .i64 z) ∧ ∃ wa M L, Mid w b g cap l A wa [] M L wc ∧ (n1 = 0 ↔ wa = []))
      case first =>
        go_wp2_with fail
        go_loopw [19] (fun i wr => ∃ k : Nat, k ≤ n1 ∧ i = .int .i64 k ∧ ∃ wa M L, Mid w b g cap l A wa [] M L wr ∧ (k = 0 ↔ wa = [])) (fun i _ => n1 - (intOf i).toNat)
        case atStart => exact ⟨0, Nat.zero_le _, rfl, [], _, _, HM.out, by simp⟩
        case round =>
          obtain ⟨k, hk, rfl, wa, M, L, hMid, hwa⟩ := hrel
          have HMID := hid hMid
          have HWA := hid hwa
          clear hMid hwa HM
          by_cases hlt : k < n1
          · obtain ⟨b1, off, rfl, hb1, -⟩ := H1.out k hlt
            obtain ⟨b1', off', e1, -, q0, q1, q2, d1, d2, d3⟩ := H1.out.kept HMID.out.keep k hlt
            simp only [Option.some.injEq, Addr.mk.injEq, and_true] at e1
            obtain ⟨rfl, rfl⟩ := e1
            obtain ⟨p1, p2, p3⟩ := HMID.out.apart
            have hne1 : b1 ≠ g := by omega
            have hne2 : b1 ≠ l := by omega
            obtain ⟨j, hj, hjp⟩ : ∃ j : Nat, j < 12 ∧ pickZ (S1 k).key 12 = j := by
              obtain ⟨a, b⟩ := pick_lt (S1 k).key (n := 12) (by decide)
              exact ⟨(pickZ (S1 k).key 12).toNat, by omega, by omega⟩
            have HP := hid (fun W => (by have := pick_any (S1 k).key 12 W d2 ⟨by decide, by decide⟩; rwa [hjp] at this : Calls Try.prog 8 #[.int .i64 (S1 k).key, .int .i64 12] W fun e w' => e = .returned (.int .i64 (j : Int)) ∧ w' = W))
            have HC := hid (fun W => cut_any (S1 k).value W d3)
            have HK := hid (fun W => key_any (j : Int) W ⟨by omega, by omega⟩)
            obtain ⟨m1, m2, m3, m4⟩ := HMID.out.cells hj
            have HPUT := hid (fun W (hW : Keeps (fun _ => False) ((wr.setCell ⟨g, j, none⟩ (.bool true)).setCell ⟨l, j, none⟩ (.string ((S1 k).value.extract 0 40))) W) => put_s (key := keyZ j) (val := (S1 k).value.extract 0 40) (((HMID.out.st.kept (Keeps.setCell wr ⟨g, j, none⟩ (.bool true)) (fun _ _ e => .inr (.inl e))).kept (Keeps.setCell _ ⟨l, j, none⟩ (.string ((S1 k).value.extract 0 40))) (fun _ _ e => .inr (.inr e))).kept hW (fun _ _ h => h.elim)) K12_len (two_look1 A wa []) (key_mem (by omega) (by omega)) (key_ok (by omega) (by omega)) (cut_ok _))
            clear d1 d2 d3 hjp p1 p2 q0
            go_wp2_with (first
              | (go_at_call 8; go_must (refine (HP.out _).mono ?_; rintro e wr ⟨rfl, rfl⟩))
              | (go_at_call 9; go_must (refine (HC.out _).mono ?_; rintro e w5 ⟨rfl, rfl⟩)))
            have qa := (Keeps.setCell wr ⟨g, j, none⟩ (.bool true)).cell (p := ⟨b1, off + k * 3 + 2, none⟩) q2 hne1
            have qb := (Keeps.setCell (wr.setCell ⟨g, j, none⟩ (.bool true)) ⟨l, j, none⟩ (.string ((S1 k).value.extract 0 40))).cell (p := ⟨b1, off + k * 3 + 2, none⟩) qa hne2
            clear qa q1 q2 m1 m2 m3 m4
            go_region_held3 (fun W => W.cell? ⟨b1, off + k * 3 + 2, none⟩ = some (.string (S1 k).value)) (go_keep) (first
              | (go_at_call 11; refine (HK.out _).mono ?_; rintro e w5 ⟨rfl, k5⟩; have k5' : Keeps (fun _ => False) ((wr.setCell ⟨g, j, none⟩ (.bool true)).setCell ⟨l, j, none⟩ (.string ((S1 k).value.extract 0 40))) w5 := (Keeps.drew _ _).tr k5 (fun _ h => h); have r2 := k5'.cell (p := ⟨b1, off + k * 3 + 2, none⟩) qb (fun h => h))
              | (go_at_call 9; refine (HC.out _).mono ?_; rintro e w5 ⟨rfl, rfl⟩)
              | (go_at_call 10; refine (HPUT.out _ k5').mono ?_; rintro e w6 ⟨rfl, s6, k6⟩; have t2 := k6.cell (p := ⟨b1, off + k * 3 + 2, none⟩) r2 (fun h => h (.inl hb1))))
            have HM6 := hid (HMID.out.putA hj k5' s6 k6)
            clear s6 k6 k5 k5' r2 t2 qb
            go_wp2
            exact ⟨⟨k + 1, by omega, by go_num, _, _, _, HM6.out, by simp [put_ne_nil]⟩, by simp only [intOf]; omega⟩
          · have e : k = n1 := by omega
            subst e
            go_wp2
            go_meet
            exact ⟨⟨_, rfl⟩, wa, M, L, HMID.out, HWA.out⟩
      case rest =>
        obtain ⟨⟨z3, rfl⟩, wa, M, L, hMid, hwa⟩ := hcut
        have HM1 := hid hMid
        have HWA := hid hwa
        clear hMid hwa HM H1
        go_upto_block 6 with fail
        go_cut [15, 17, 22] (fun c p i wc => (∃ z : Int, i = .int .i64 z) ∧ p = .int .i64 (n2 : Int) ∧ ∃ wb, c = .bool (clashB wa wb) ∧ Mid w b g cap l A wa wb M L wc ∧ (n2 = 0 ↔ wb = []))
        case first =>
          go_wp2_with fail
          go_loopw [15, 17, 22] (fun c p i wr => ∃ k : Nat, k ≤ n2 ∧ i = .int .i64 k ∧ p = .int .i64 k ∧ ∃ wb cb, c = .bool cb ∧ cb = clashB wa wb ∧ Mid w b g cap l A wa wb M L wr ∧ (k = 0 ↔ wb = [])) (fun _ _ i _ => n2 - (intOf i).toNat)
          case atStart => exact ⟨0, Nat.zero_le _, rfl, rfl, [], false, rfl, rfl, HM1.out, by simp⟩
          case round =>
            obtain ⟨k, hk, rfl, rfl, wb, cb, rfl, hcb, hMid, hwb⟩ := hrel
            have HMID := hid hMid
            have HWB := hid hwb
            have HCB := hid hcb
            clear hMid hwb hcb HM1
            by_cases hlt : k < n2
            · obtain ⟨b1, off, rfl, hb1, -⟩ := H2.out k hlt
              obtain ⟨b1', off', e1, -, q0, q1, q2, d1, d2, d3⟩ := H2.out.kept HMID.out.keep k hlt
              simp only [Option.some.injEq, Addr.mk.injEq, and_true] at e1
              obtain ⟨rfl, rfl⟩ := e1
              obtain ⟨j, hj, hjp⟩ : ∃ j : Nat, j < 12 ∧ pickZ (S2 k).key 12 = j := by
                obtain ⟨a, b⟩ := pick_lt (S2 k).key (n := 12) (by decide)
                exact ⟨(pickZ (S2 k).key 12).toNat, by omega, by omega⟩
              have HP := hid (fun W => (by have := pick_any (S2 k).key 12 W d2 ⟨by decide, by decide⟩; rwa [hjp] at this : Calls Try.prog 8 #[.int .i64 (S2 k).key, .int .i64 12] W fun e w' => e = .returned (.int .i64 (j : Int)) ∧ w' = W))
              have HC := hid (fun W => cut_any (S2 k).value W d3)
              have HK := hid (fun W => key_any (j : Int) W ⟨by omega, by omega⟩)
              obtain ⟨m1, -, -, -⟩ := HMID.out.cells hj
              have HPUT := hid (fun W (hW : Keeps (fun _ => False) wr W) => put_s (key := keyZ j) (val := (S2 k).value.extract 0 40) (HMID.out.st.kept hW (fun _ _ h => h.elim)) K12_len (two_look2 A wa wb) (key_mem (by omega) (by omega)) (key_ok (by omega) (by omega)) (cut_ok _))
              obtain ⟨mb, hmb⟩ : ∃ mb, mb = (look wa (keyZ j)).isSome := ⟨_, rfl⟩
              rw [← hmb] at m1
              have HMB := hid hmb
              have HNX : Hid (∀ v, clashB wa (put wb (keyZ j) v) = (cb || mb)) := fun v => by rw [clashB_put, HCB.out, HMB.out]
              clear d1 d2 d3 hjp q0 hmb
              cases cb with
              | true =>
                go_wp2_with (go_at_call 8; go_must (refine (HP.out _).mono ?_; rintro e wr ⟨rfl, rfl⟩))
                go_region_held3 (fun W => W.cell? ⟨b1, off + k * 3 + 2, none⟩ = some (.string (S2 k).value)) (go_keep) (first
                  | (go_at_call 11; refine (HK.out _).mono ?_; rintro e w5 ⟨rfl, k5⟩; have k5' : Keeps (fun _ => False) wr w5 := (Keeps.drew _ _).tr k5 (fun _ h => h); have r2 := k5'.cell (p := ⟨b1, off + k * 3 + 2, none⟩) q2 (fun h => h))
                  | (go_at_call 9; refine (HC.out _).mono ?_; rintro e w5 ⟨rfl, rfl⟩)
                  | (go_at_call 10; refine (HPUT.out _ k5').mono ?_; rintro e w6 ⟨rfl, s6, k6⟩; have t2 := k6.cell (p := ⟨b1, off + k * 3 + 2, none⟩) r2 (fun h => h (.inl hb1))))
                have HM6 := hid ((HMID.out.kept k5').putB s6 k6)
                clear s6 k6 k5 k5' r2 t2
                go_wp2
                exact ⟨⟨k + 1, by omega, by go_num, by go_num, _, _, rfl, (HNX.out _).symm, HM6.out, by simp [put_ne_nil]⟩, by simp only [intOf]; omega⟩
              | false =>
                go_wp2_with (go_at_call 8; go_must (refine (HP.out _).mono ?_; rintro e wr ⟨rfl, rfl⟩))
                go_region_held3 (fun W => W.cell? ⟨b1, off + k * 3 + 2, none⟩ = some (.string (S2 k).value)) (go_keep) (first
                  | (go_at_call 11; refine (HK.out _).mono ?_; rintro e w5 ⟨rfl, k5⟩; have k5' : Keeps (fun _ => False) wr w5 := (Keeps.drew _ _).tr k5 (fun _ h => h); have r2 := k5'.cell (p := ⟨b1, off + k * 3 + 2, none⟩) q2 (fun h => h))
                  | (go_at_call 9; refine (HC.out _).mono ?_; rintro e w5 ⟨rfl, rfl⟩)
                  | (go_at_call 10; refine (HPUT.out _ k5').mono ?_; rintro e w6 ⟨rfl, s6, k6⟩; have t2 := k6.cell (p := ⟨b1, off + k * 3 + 2, none⟩) r2 (fun h => h (.inl hb1))))
                have HM6 := hid ((HMID.out.kept k5').putB s6 k6)
                clear s6 k6 k5 k5' r2 t2
                go_wp2
                exact ⟨⟨k + 1, by omega, by go_num, by go_num, _, _, rfl, (HNX.out _).symm, HM6.out, by simp [put_ne_nil]⟩, by simp only [intOf]; omega⟩
            · have e : k = n2 := by omega
              subst e
              go_wp2
              go_meet
              exact ⟨⟨_, rfl⟩, rfl, wb, by rw [HCB.out], HMID.out, HWB.out⟩
        case rest =>
          obtain ⟨⟨z4, rfl⟩, rfl, wb, rfl, hMid, hwb⟩ := hcut
          have HMID := hid hMid
          have HWB := hid hwb
          clear hMid hwb HM1 H2
          have HLK := hid (look_two HMID.out.st HSND.out)
          go_wp2_with fail
          refine (HLK.out).mono ?_
          rintro e w4 ⟨⟨x1, x2, x3, x4, x5, rfl⟩, s4, k4⟩
          have HR4 := hid (HMID.out.rows.kept (k4.mono (fun _ _ h => h.elim)))
          have HCA := hid (commit_a s4 HR4.out.own HSND.out a2)
          have h0A := HSND.out.now.1
          have hfld := state_now A.now x1 x2 x3 x4 x5 w4
          clear s4 k4 HLK
          by_cases hwa : wa = []
          · have e1 : n1 = 0 := HWA.out.2 hwa
            have e2 : nowA A wa = A.now := by simp [nowA, hwa]
            have e3 : clashB wa wb = false := by
              cases hcl : clashB wa wb with
              | false => rfl
              | true => exact absurd hwa (clash_ne hcl).1
            have HE3 := hid e3
            have HE2 := hid e2
            rw [e2] at HCA
            rw [e3]
            subst e1
            clear e2 e3 hwa
            go_wp2_with fail
            refine (HCA.out).mono ?_
            rintro e w5 ⟨rfl, s5, k5⟩
            have HR5 := hid (HR4.out.kept k5)
            clear HCA k5
            by_cases hwb : wb = []
            · have e1 : n2 = 0 := HWB.out.2 hwb
              subst e1
              subst hwb
              have HCB := hid (commit_b0 s5)
              clear s5
              go_wp2_with (go_at_call 13; go_must (refine (HCB.out).mono ?_; rintro e w6 ⟨rfl, k6⟩))
              go_ret
              exact ⟨rfl, (HR5.out.kept k6).keep⟩
            · have e1 : ¬ n2 = 0 := fun e => hwb (HWB.out.1 e)
              have hn2p : (0 : Int) < n2 := by omega
              have hCB := commit_b2 s5 HR5.out.own HSND.out a2 hwb HE3.out
              rw [HE2.out] at hCB
              have HCB := hid hCB
              clear s5 hCB hwb e1
              go_wp2_with (go_at_call 13; go_must (refine (HCB.out).mono ?_; rintro e w6 ⟨rfl, k6⟩))
              go_ret
              exact ⟨rfl, (HR5.out.kept k6).keep⟩
          · have hn1p : (0 : Int) < n1 := by have h9 : n1 ≠ 0 := (fun e => hwa (HWA.out.1 e)); omega
            have e2 : nowA A wa = A.now + 1 := by simp [nowA, hwa]
            have HE2 := hid e2
            rw [e2] at HCA
            clear e2 hwa
            go_wp2_with fail
            refine (HCA.out).mono ?_
            rintro e w5 ⟨rfl, s5, k5⟩
            have HR5 := hid (HR4.out.kept k5)
            clear HCA k5
            cases hcl : clashB wa wb with
            | false =>
              have HCL := hid hcl
              clear hcl
              by_cases hwb : wb = []
              · have e1 : n2 = 0 := HWB.out.2 hwb
                subst e1
                subst hwb
                have HCB := hid (commit_b0 s5)
                clear s5
                go_wp2_with (go_at_call 13; go_must (refine (HCB.out).mono ?_; rintro e w6 ⟨rfl, k6⟩))
                go_ret
                exact ⟨rfl, (HR5.out.kept k6).keep⟩
              · have e1 : ¬ n2 = 0 := fun e => hwb (HWB.out.1 e)
                have hn2p : (0 : Int) < n2 := by omega
                have hCB := commit_b2 s5 HR5.out.own HSND.out a2 hwb HCL.out
                rw [HE2.out] at hCB
                have HCB := hid hCB
                clear s5 hCB hwb e1
                go_wp2_with (go_at_call 13; go_must (refine (HCB.out).mono ?_; rintro e w6 ⟨rfl, k6⟩))
                go_ret
                exact ⟨rfl, (HR5.out.kept k6).keep⟩
            | true =>
              have HCB := hid (commit_b1 s5 HR5.out.own HSND.out a2 hcl)
              clear s5 hcl hfld
              go_upto_block 8 with (go_at_call 13; go_must (refine (HCB.out).mono ?_; rintro e w6 ⟨rfl, s6, k6⟩; have HR6 := hid (HR5.out.kept k6); have HS6 := hid s6; clear s6 k6))
              have hbg := HSND.out.begun
              go_wp2_with fail
              go_loopw [30] (fun i wr => ∃ k : Nat, k ≤ 12 ∧ i = .int .i64 k ∧ ∃ n : Int, n = A.begun + 2 + k ∧ SAt K12 (fun k => k < w.heap.size ∨ k = g ∨ k = l) wr b (A.late wa n) ∧ RowsAt w g cap l wa M L wr) (fun i _ => (12 - intOf i).toNat)
              case atStart => exact ⟨0, by omega, rfl, A.begun + 2, by simp, HS6.out, HR6.out⟩
              case round =>
                obtain ⟨k, hk, rfl, n, hn, sN, rN⟩ := hrel
                have HN := hid hn
                have HSN := hid sN
                have HRN := hid rN
                have hn1 : 1 ≤ n := by omega
                have hn2' : n ≤ 200000 := by omega
                clear sN rN hn HS6 HR6 HR5 HR4 HMID HCB
                by_cases hlt : k < 12
                · have HBG := hid (late_begin HSN.out HRN.out.own (by omega))
                  have HKY := hid (fun W => key_any (k : Int) W ⟨by omega, by omega⟩)
                  obtain ⟨m1, x, m2, m3⟩ := HRN.out.cells hlt
                  cases hl : look wa (keyZ k) with
                  | some v =>
                    have e := m3 v hl
                    subst e
                    have HL := hid hl
                    rw [hl] at m1
                    simp only [Option.isSome_some] at m1
                    clear m3 hl
                    go_wp2_with (first
                      | (go_at_call 7; go_must (refine (HBG.out).mono ?_; rintro e w7 ⟨rfl, s7, k7⟩; have HS7 := hid s7; have K7 := hid k7; have p1 := k7.cell (p := ⟨g, k, none⟩) m1 (fun h => h (.inr (.inl rfl))); have p2 := k7.cell (p := ⟨l, k, none⟩) m2 (fun h => h (.inr (.inr rfl))); clear s7 k7 m1 m2 HBG))
                      | (go_at_call 11; go_must (refine (HKY.out _).mono ?_; rintro e w8 ⟨rfl, k8⟩; have K8 := hid k8; have HGT := hid (late_get (HS7.out.kept k8 (fun _ _ h => h.elim)) HSND.out hlt HL.out); have p1 := k8.cell (p := ⟨g, k, none⟩) p1 (fun h => h); have p2 := k8.cell (p := ⟨l, k, none⟩) p2 (fun h => h); clear k8 HS7))
                      | (go_at_call 14; go_must (refine (HGT.out).mono ?_; rintro e w9 ⟨rfl, s9, k9⟩; have K9 := hid k9; have HAB := hid (late_abort s9); have p1 := k9.cell (p := ⟨g, k, none⟩) p1 (fun h => h); have p2 := k9.cell (p := ⟨l, k, none⟩) p2 (fun h => h); clear s9 k9 HGT))
                      | (go_at_call 15; go_must (refine (HAB.out).mono ?_; rintro e w10 ⟨rfl, s10, k10⟩; have HS10 := hid s10; have K10 := hid k10; have p1 := k10.cell (p := ⟨g, k, none⟩) p1 (fun h => h (.inr (.inl rfl))); have p2 := k10.cell (p := ⟨l, k, none⟩) p2 (fun h => h (.inr (.inr rfl))); clear s10 k10 HAB)))
                    exact ⟨⟨k + 1, by omega, by go_num, n + 1, by rw [HN.out]; go_num, HS10.out, (((HRN.out.kept K7.out).kept (K8.out.mono (fun _ _ h => h.elim))).kept (K9.out.mono (fun _ _ h => h.elim))).kept K10.out⟩, by simp only [intOf]; omega⟩
                  | none =>
                    rw [hl] at m1
                    simp only [Option.isSome_none] at m1
                    clear m3 hl m2
                    go_wp2_with (first
                      | (go_at_call 7; go_must (refine (HBG.out).mono ?_; rintro e w7 ⟨rfl, s7, k7⟩; have HS7 := hid s7; have K7 := hid k7; have p1 := k7.cell (p := ⟨g, k, none⟩) m1 (fun h => h (.inr (.inl rfl))); clear s7 k7 m1 HBG))
                      | (go_at_call 11; go_must (refine (HKY.out _).mono ?_; rintro e w8 ⟨rfl, k8⟩; have K8 := hid k8; have HGT := hid (get_s (n := n + 1) (key := keyZ k) (HS7.out.kept k8 (fun _ _ h => h.elim)) (key_size (by omega) (by omega))); have p1 := k8.cell (p := ⟨g, k, none⟩) p1 (fun h => h); clear k8 HS7))
                      | (go_at_call 14; go_must (refine (HGT.out).mono ?_; rintro e w9 ⟨rfl, s9, k9⟩; have K9 := hid k9; have HAB := hid (late_abort s9); have p1 := k9.cell (p := ⟨g, k, none⟩) p1 (fun h => h); clear s9 k9 HGT))
                      | (go_at_call 15; go_must (refine (HAB.out).mono ?_; rintro e w10 ⟨rfl, s10, k10⟩; have HS10 := hid s10; have K10 := hid k10; have p1 := k10.cell (p := ⟨g, k, none⟩) p1 (fun h => h (.inr (.inl rfl))); clear s10 k10 HAB)))
                    exact ⟨⟨k + 1, by omega, by go_num, n + 1, by rw [HN.out]; go_num, HS10.out, (((HRN.out.kept K7.out).kept (K8.out.mono (fun _ _ h => h.elim))).kept (K9.out.mono (fun _ _ h => h.elim))).kept K10.out⟩, by simp only [intOf]; omega⟩
                · have hLK := late_look HSN.out hn1
                  rw [HE2.out] at hLK
                  have HLK := hid hLK
                  clear hLK
                  go_wp2_with (go_at_call 12; go_must (refine (HLK.out).mono ?_; rintro e w9 ⟨⟨y1, y2, y3, y4, y5, rfl⟩, k9⟩; have hf9 := state_now (A.now + 1) y1 y2 y3 y4 y5 w9))
                  go_ret
                  exact ⟨rfl, (HRN.out.kept (k9.mono (fun _ _ h => h.elim))).keep⟩

end Go.Proofs.Ytfcocbcihhdbkaa
