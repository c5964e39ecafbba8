/- Steady holds for every input: a work sees what it saw, but for what it has put itself; no condition. -/
import Derived.Test.YtfcocbcihhdbkaaM6
import Derived.Deep.DeepCutAuto
import Derived.Deep.CutBlock
import Derived.Test.YtfcocbcihhdbkaaRows
import Derived.ProofKit
import Derived.OpenShut
import Derived.ShutString
import Derived.ChangeOld
import Derived.Below
import Derived.Deep.Slices

/- Steady: a work sees what it saw. -/
namespace Go.Proofs.Ytfcocbcihhdbkaa
open Go.RowKit Go.Shelf

def tquo (x : Int) : Int := x.tdiv 4

theorem tquo_lt {x : Int} (h : -9223372036854775808 ≤ x ∧ x ≤ 9223372036854775807) : -9223372036854775808 ≤ tquo x ∧ tquo x ≤ 9223372036854775807 := by
  unfold tquo
  rcases Int.le_total 0 x with h0 | h0
  · rw [Int.tdiv_eq_ediv_of_nonneg h0]
    omega
  · have e : x.tdiv 4 = -((-x) / 4) := by
      rw [← Int.tdiv_eq_ediv_of_nonneg (by omega : 0 ≤ -x), Int.neg_tdiv, Int.neg_neg]
    rw [e]
    omega

theorem wrap_tquo {x : Int} (h : -9223372036854775808 ≤ x ∧ x ≤ 9223372036854775807) : wrap64 (x.tdiv 4) = tquo x := by
  have := tquo_lt h
  unfold tquo at this ⊢
  unfold wrap64
  omega

theorem scan_len (A : Abs) (bg : Int) (ws : List (ByteArray × Ver)) : (A.scan bg ws).length ≤ 12 := by
  unfold Abs.scan
  exact Nat.le_trans (List.length_filterMap_le _ _) (by decide)

/-- what is wanted of the first ones -/
def wantOf (ps : List (ByteArray × ByteArray)) (kk : ByteArray) (k : Nat) : List (ByteArray × ByteArray) := (ps.take k).filter (fun p => decide (p.1 ≠ kk))

theorem want_zero (ps : List (ByteArray × ByteArray)) (kk : ByteArray) : wantOf ps kk 0 = [] := by simp [wantOf]

theorem want_all (ps : List (ByteArray × ByteArray)) (kk : ByteArray) : ps.filter (fun p => decide (p.1 ≠ kk)) = wantOf ps kk ps.length := by
  unfold wantOf
  rw [List.take_length]

theorem want_none (ps : List (ByteArray × ByteArray)) (kk : ByteArray) (k : Nat) (h : k < ps.length) (e : ps[k].1 = kk) : wantOf ps kk (k + 1) = wantOf ps kk k := by
  unfold wantOf
  rw [List.take_succ_eq_append_getElem h, List.filter_append]
  simp [e]

theorem want_more (ps : List (ByteArray × ByteArray)) (kk : ByteArray) (k : Nat) (h : k < ps.length) (e : ¬ ps[k].1 = kk) : wantOf ps kk (k + 1) = wantOf ps kk k ++ [ps[k]] := by
  unfold wantOf
  rw [List.take_succ_eq_append_getElem h, List.filter_append]
  simp [e]

theorem want_len (ps : List (ByteArray × ByteArray)) (kk : ByteArray) (k : Nat) : (wantOf ps kk k).length ≤ ps.length :=
  Nat.le_trans (List.length_filter_le _ _) (by simp; omega)

theorem box_three (w : World) (u v s : Value) (t : TypeId) : w.heap.size < (w.alloc (.cells #[u, v, s] t)).heap.size ∧ (w.alloc (.cells #[u, v, s] t)).cell? ⟨w.heap.size, 1, none⟩ = some v ∧ (w.alloc (.cells #[u, v, s] t)).cell? ⟨w.heap.size, 2, none⟩ = some s := by
  refine ⟨by simp, ?_, ?_⟩ <;> simp [go_sem]

set_option maxRecDepth 100000 in
set_option maxHeartbeats 2000000 in
theorem steady_any (w : World) (o0 o1 : Option Addr) (n0 n1 c0 c1 : Nat) (S0 S1 : Nat → RawStep) (x y : Int) (z : ByteArray) (h0 : StepsAt w o0 n0 S0) (h1 : StepsAt w o1 n1 S1) (hy : -9223372036854775808 ≤ y ∧ y ≤ 9223372036854775807) (hz : z.size ≤ maxLen) :
    Calls Try.prog 4 #[.slice o0 n0 c0, .slice o1 n1 c1, .agg #[.int .i64 x, .int .i64 y, .string z]] w fun e w' => e = .returned (.bool true) ∧ Keeps (fun _ => False) w w' := by
  have HB := hid (fun W => begun_any W)
  have H0 := hid h0
  have H1 := hid h1
  have HY := hid hy
  have HZ := hid hz
  clear h0 h1 hy hz
  go_enter Try.func4, Try.ntmps4
  go_upto_block 0 with (go_at_call 5; go_must (refine (HB.out _).mono ?_; rintro e w1 ⟨b, rfl, hb, s1, k1⟩))
  obtain ⟨w0, hw0⟩ : ∃ w0, w0 = w.alloc (Obj.cells #[.int .i64 x, .int .i64 y, .string z] 27) := ⟨_, rfl⟩
  rw [← hw0] at hb s1 k1
  have KW : Hid (Keeps (fun _ => False) w w0) := by rw [hw0]; exact Keeps.alloc (fun _ => False) _ _
  have HBOX : Hid (w.heap.size < w0.heap.size ∧ w0.cell? ⟨w.heap.size, 1, none⟩ = some (.int .i64 y) ∧ w0.cell? ⟨w.heap.size, 2, none⟩ = some (.string z)) := by
    rw [hw0]
    exact box_three _ _ _ _ _
  have J0 := hid (H0.out.kept KW.out)
  have J1 := hid (H1.out.kept KW.out)
  clear H0 H1 hw0 HB
  generalize w.heap.size = p at *
  go_cut [8] (fun i wc => (∃ z : Int, i = .int .i64 z) ∧ FirstBefore w0 b wc)
  case first =>
    go_wp2_with fail
    go_loopw [8] (fun i wr => ∃ k : Nat, k ≤ 100000 ∧ i = .int .i64 k ∧ FirstBeforeAt w0 b k wr) (fun i _ => (100000 - intOf i).toNat)
    case atStart => exact ⟨0, by omega, rfl, Abs.zero, s1, rfl, rfl, rfl, k1⟩
    case round =>
      obtain ⟨k, hk, rfl, A, sA, a1, a2, a3, kA⟩ := hrel
      have HA := hid (And.intro a1 (And.intro a2 a3))
      have HF : Hid (FirstBefore w0 b wr) := ⟨A, sA, a1, by omega, by omega, kA⟩
      clear s1 k1
      by_cases hlt : k < n0
      · by_cases hl2 : k < 100000
        · obtain ⟨b0, off, rfl, hb0, q0, q1, q2, d1, d2, d3⟩ := J0.out.kept kA k hlt
          have HW := hid (lawWrite_any (S0 k).what (S0 k).key (S0 k).value sA (fun j hj => Nat.lt_of_lt_of_le hj kA.size) (by rw [a1]; simp) (by omega) (by omega) d1 d2 d3)
          have KA := hid kA
          have HL2 := hid hl2
          have hl3 : (k : Int) < 100000 := by omega
          clear d1 d2 d3 a1 a2 a3 sA kA hl2 hk
          go_wp2_with (go_at_call 6; go_must (refine (HW.out).mono ?_; rintro e w2 hw2; obtain ⟨rfl, hw3⟩ := firstBefore_step HA.out KA.out hw2; have HW3 := hid hw3; clear hw2 hw3))
          exact ⟨⟨k + 1, HL2.out, by go_num, HW3.out⟩, by have := HL2.out; simp only [intOf]; omega⟩
        · have hl3 : ¬ (k : Int) < 100000 := by omega
          clear sA kA a1 a2 a3 hl2 hk HA J0 J1
          go_wp2
          go_meet
          exact ⟨⟨_, rfl⟩, HF.out⟩
      · clear sA kA a1 a2 a3 hk HA J0 J1
        go_wp2
        go_meet
        exact ⟨⟨_, rfl⟩, HF.out⟩
  case rest =>
    obtain ⟨⟨i1, rfl⟩, hF⟩ := hcut
    have HBG := hid (steady_begin hF)
    clear hF J0 s1 k1
    go_wp2_with fail
    refine (HBG.out).mono ?_
    rintro e w2 ⟨wn, bg, A, rfl, hBA⟩
    have HSC := hid (steady_scan0 hBA)
    clear hBA HBG
    go_wp2_with fail
    refine (HSC.out).mono ?_
    rintro e w3 ⟨ps, vl, rfl, hST⟩
    obtain ⟨ov, cv, rfl, hm, hov⟩ := hST.row.form
    have HST := hid hST
    have HOV := hid hov
    clear hST HSC hov
    go_upto_block 2 with fail
    go_cut [14] (fun i wc => (∃ z : Int, i = .int .i64 z) ∧ ∃ k A, SteadyAt w0 b wn bg ps (.slice ov ps.length cv) k A wc)
    case first =>
      go_wp2_with fail
      go_loopw [14] (fun i wr => ∃ k : Nat, k ≤ 100000 ∧ i = .int .i64 k ∧ ∃ A, SteadyAt w0 b wn bg ps (.slice ov ps.length cv) k A wr) (fun i _ => (100000 - intOf i).toNat)
      case atStart => exact ⟨0, by omega, rfl, _, HST.out⟩
      case round =>
        obtain ⟨k, hk, rfl, A', hS⟩ := hrel
        have HS := hid hS
        clear hS HST
        by_cases hlt : k < n1
        · by_cases hl2 : k < 100000
          · obtain ⟨b0, off, rfl, hb0, q0, q1, q2, d1, d2, d3⟩ := J1.out.kept HS.out.keep k hlt
            have HW := hid (lawWrite_any (S1 k).what (S1 k).key (S1 k).value HS.out.st HS.out.room (by rw [HS.out.works]; simp) (by have := HS.out.now; omega) (by have := HS.out.begun; omega) d1 d2 d3)
            have HD := hid d1
            have HL2 := hid hl2
            have HLT := hid hlt
            have hl3 : (k : Int) < 100000 := by omega
            clear d1 d2 d3 hl2 hk
            go_wp2_with fail
            refine (HW.out).mono ?_
            rintro e w4 hw
            obtain ⟨rfl, A2, hS2⟩ := HS.out.wrote hw
            have HS2 := hid hS2
            clear hw hS2 HW q0 q1 q2 HS
            obtain ⟨b0', off', e1, -, q0, -, -, -, -, -⟩ := J1.out.kept HS2.out.keep k HLT.out
            simp only [Option.some.injEq, Addr.mk.injEq, and_true] at e1
            obtain ⟨rfl, rfl⟩ := e1
            have HP := hid (fun W => pick_any (tquo (S1 k).what) 3 W (tquo_lt HD.out) ⟨by decide, by decide⟩)
            have HQ := hid (wrap_tquo HD.out)
            go_wp2_with fail
            rw [HQ.out]
            refine (HP.out _).mono ?_
            rintro e w5 ⟨rfl, rfl⟩
            clear HP HQ q0
            generalize pickZ (tquo (S1 k).what) 3 = cc
            by_cases h0 : cc = 0
            · have HSW := hid HS2.out.sweeps
              go_wp2_with fail
              refine (HSW.out).mono ?_
              rintro e w6 ⟨zz, A3, rfl, hS3⟩
              have HSC := hid hS3.scanned
              clear hS3 HSW
              go_wp2_with fail
              refine (HSC.out).mono ?_
              rintro e w7 ⟨vm, rfl, hS4, hrm⟩
              have HS4 := hid hS4
              have HSM := hid (same_eq _ _ ps w7 hS4.row hrm)
              obtain ⟨om, cm, rfl, -, -⟩ := hrm.form
              clear hrm hS4 HSC
              go_wp2_with fail
              refine (HSM.out).mono ?_
              rintro e w8 ⟨rfl, k8⟩
              have HS5 := hid (HS4.out.still k8)
              clear k8 HSM HS4
              go_wp2
              exact ⟨⟨k + 1, HL2.out, by go_num, _, HS5.out⟩, by have := HL2.out; simp only [intOf]; omega⟩
            · have HSC := hid HS2.out.scanned
              have hcc : (cc == 0) = false := by simpa using h0
              have hcd : decide (cc = 0) = false := by simpa using h0
              clear h0
              go_wp2_with fail
              refine (HSC.out).mono ?_
              rintro e w7 ⟨vm, rfl, hS4, hrm⟩
              have HS4 := hid hS4
              have HSM := hid (same_eq _ _ ps w7 hS4.row hrm)
              obtain ⟨om, cm, rfl, -, -⟩ := hrm.form
              clear hrm hS4 HSC
              go_wp2_with fail
              refine (HSM.out).mono ?_
              rintro e w8 ⟨rfl, k8⟩
              have HS5 := hid (HS4.out.still k8)
              clear k8 HSM HS4
              go_wp2
              exact ⟨⟨k + 1, HL2.out, by go_num, _, HS5.out⟩, by have := HL2.out; simp only [intOf]; omega⟩
          · have hl3 : ¬ (k : Int) < 100000 := by omega
            clear hl2 hk J1
            go_wp2
            go_meet
            exact ⟨⟨_, rfl⟩, _, _, HS.out⟩
        · clear hk J1
          go_wp2
          go_meet
          exact ⟨⟨_, rfl⟩, _, _, HS.out⟩
    case rest =>
      obtain ⟨⟨i2, rfl⟩, k2, A2, hS⟩ := hcut
      have HM0 := hid hS.mine
      have hps : ps.length ≤ 12 := by rw [← hS.scan]; exact scan_len _ _ _
      clear hS HST J1
      obtain ⟨j, hj, hjp⟩ : ∃ j : Nat, j < 12 ∧ pickZ y 12 = j := by
        obtain ⟨a, b⟩ := pick_lt y (n := 12) (by decide)
        exact ⟨(pickZ y 12).toNat, by omega, by omega⟩
      have HP := hid (fun W => (by have := pick_any y 12 W HY.out ⟨by decide, by decide⟩; rwa [hjp] at this : Calls Try.prog 8 #[.int .i64 y, .int .i64 12] W fun e w' => e = .returned (.int .i64 (j : Int)) ∧ w' = W))
      have HK := hid (fun W => key_any (j : Int) W ⟨by omega, by omega⟩)
      have HC := hid (fun W => cut_any z W HZ.out)
      have b1 := HM0.out.keep.cell HBOX.out.2.1 (fun h => h)
      have HJ := hid hj
      clear hjp hj
      go_wp2_with fail
      refine (HP.out _).mono ?_
      rintro e w5 ⟨rfl, rfl⟩
      go_wp2_with fail
      refine (HK.out _).mono ?_
      rintro e w6 ⟨rfl, k6⟩
      have HM1 := hid (HM0.out.still k6)
      have b2 := HM1.out.keep.cell HBOX.out.2.2 (fun h => h)
      have HPUT := hid (HM1.out.puts HJ.out (cut_ok z))
      clear b1 HP HK HM0 k6
      go_wp2_with fail
      refine (HC.out _).mono ?_
      rintro e w7 ⟨rfl, rfl⟩
      go_wp2_with fail
      refine (HPUT.out).mono ?_
      rintro e w8 ⟨A3, rfl, h3⟩
      have HG := hid (h3.gets HJ.out)
      clear h3 HPUT b2 HM1
      go_wp2_with fail
      refine (HG.out).mono ?_
      rintro e w9 ⟨rfl, h4⟩
      have HD := hid (h4.deletes HJ.out)
      clear h4 HG
      go_wp2_with fail
      refine (HD.out).mono ?_
      rintro e w10 ⟨A5, rfl, h5⟩
      have HG := hid (h5.getsNone HJ.out)
      clear h5 HD
      go_wp2_with fail
      refine (HG.out).mono ?_
      rintro e w11 ⟨rfl, h6⟩
      have HSC := hid h6.scanned
      clear h6 HG
      go_wp2_with fail
      refine (HSC.out).mono ?_
      rintro e w12 ⟨vm, rfl, kw, hrl, hrm⟩
      rw [want_all] at hrm
      obtain ⟨om, cm, rfl, -, -⟩ := hrm.form
      have HKW := hid kw
      have HRL := hid hrl
      have HRM := hid hrm
      clear HSC kw hrl hrm
      generalize keyZ (j : Int) = kk at *
      go_upto_block 4 with fail
      go_cut [28, 29] (fun v i wc => (∃ z : Int, i = .int .i64 z) ∧ WantAt w12 v (wantOf ps kk ps.length) wc)
      case first =>
        go_wp2_with fail
        go_loopw [28, 29] (fun v i wr => ∃ k : Nat, k ≤ ps.length ∧ i = .int .i64 k ∧ WantAt w12 v (wantOf ps kk k) wr) (fun _ i _ => ps.length - (intOf i).toNat)
        case atStart => exact ⟨0, Nat.zero_le _, rfl, by rw [want_zero]; exact ⟨Row.nil _ _ _, fun g hg => by simp [Value.ownBlock] at hg, Keeps.refl _ _⟩⟩
        case round =>
          obtain ⟨k, hk, rfl, hW⟩ := hrel
          have HW := hid hW
          clear hW
          by_cases hlt : k < ps.length
          · obtain ⟨g, rfl⟩ := HOV.out (by omega)
            obtain ⟨q0, q1⟩ := Row.pair (HRL.out.kept HW.out.2.2 (fun _ _ h => h)) k hlt
            by_cases hkk : ps[k].1 = kk
            · have HW2 := hid HW.out
              rw [← want_none ps kk k hlt hkk] at HW2
              rw [hkk] at q0
              clear hkk
              go_wp2
              exact ⟨⟨k + 1, by omega, by go_num, HW2.out⟩, by simp only [intOf]; omega⟩
            · obtain ⟨i0, hi, hz0, hz1, hz2⟩ := info_parts Try.infoPair
              have HWM := hid (want_more ps kk k hlt hkk)
              have hwl := want_len ps kk k
              generalize ps[k] = pk at *
              have hxb : (pk.1.toList == kk.toList) = false := (Lib.bytes_beq_false_iff _ _).2 hkk
              clear hkk
              generalize wantOf ps kk k = xs at *
              go_wp2_with (first | (at_builtin; go_must (refine wpList_append_row _ rfl _ _ 45 rfl 52 i0 (.agg #[.string ⟨#[]⟩, .string ⟨#[]⟩]) 2 32 Try.underlying45 hi hz0 hz1 hz2 rfl _ xs.length _ rfl (HW.out.1.kept (Keeps.alloc (fun _ => False) _ _) (fun _ _ h => h)) ⟨wr.heap.size, 0, none⟩ 1 1 [.string pk.1, .string pk.2] rfl rfl (pair_new _ _ _ _) (by simp [Value.oneCell']) (by unfold maxLen; omega) (by omega) ?_; intro v' w5 hown' hgrow _ hat; have HM5 := hid (want_step HW.out hown' hgrow hat); clear hown' hgrow hat)) | fail)
              exact ⟨⟨k + 1, by omega, by go_num, by rw [HWM.out]; exact HM5.out⟩, by simp only [intOf]; omega⟩
          · have e : k = ps.length := by omega
            subst e
            go_wp2
            go_meet
            exact ⟨⟨_, rfl⟩, HW.out⟩
      case rest =>
        obtain ⟨⟨i3, rfl⟩, hW⟩ := hcut
        obtain ⟨ow, cw, rfl, -, -⟩ := hW.1.form
        have HSM := hid (same_eq _ _ _ wc (HRM.out.kept hW.2.2 (fun _ _ h => h)) hW.1)
        have HKF := hid (HKW.out.tr hW.2.2 (fun _ h => h))
        clear hW
        go_wp2_with fail
        refine (HSM.out).mono ?_
        rintro e w13 ⟨rfl, k13⟩
        have HKE := hid (HKF.out.tr k13 (fun _ h => h))
        have b3 := HKE.out.cell HBOX.out.2.2 (fun h => h)
        clear k13 HSM
        go_wp2_with (go_at_call 9; go_must (refine (HC.out _).mono ?_; rintro e w14 ⟨rfl, rfl⟩))
        go_ret
        exact ⟨rfl, KW.out.tr HKE.out (fun _ h => h)⟩

end Go.Proofs.Ytfcocbcihhdbkaa

/- The statement Steady: whatever the two lists of raw steps and the work's own step, the call returns true and leaves them as they were. No condition. -/
namespace Go.Proofs.Ytfcocbcihhdbkaa
open Go.ChangeShapes Go.WideShapes Go.ChangeAt Go.RowKit Go.Deep

theorem Try.own : ownKnob Try.prog.godebug = none := by kernel_rfl
theorem Try.laidOut : laidOutB Try.prog = true := by kernel_rfl
theorem Try.cellsStep : Try.prog.cellsOf 27 = 3 := by kernel_rfl
theorem Try.cellsInt : Try.prog.cellsOf 3 = 1 := by kernel_rfl
theorem Try.cellsString : Try.prog.cellsOf 9 = 1 := by kernel_rfl

theorem wf_i64 {n : Int} (h : (Lit.int .i64 n).wf = true) : -9223372036854775808 ≤ n ∧ n ≤ 9223372036854775807 := by
  have := bounds_i64 h
  omega

set_option maxRecDepth 100000 in
/-- A list of raw steps that came in. -/
theorem steps_open {H : Type} {enc : TypeId × Value → H} {W : World} {base : Nat} {spare : Nat → Bool} {held : Bool} {fuel len0 cap0 : Nat} {a0 : Option Addr} {x : DataW H × List MemPlace}
    (h : DataW.trod enc Try.prog W base spare held fuel 22 [.slice a0 len0 cap0] = some x) : ∃ S, StepsAt W a0 len0 S ∧ len0 ≤ maxLen := by
  rcases open_slice Try.underlying22 h with ⟨hcs, _⟩ | ⟨a, len, cap, m, n, D, Pl, hcs, _, hl, hm, hmm, _, hel⟩
  · simp at hcs
    obtain ⟨rfl, rfl, rfl⟩ := hcs
    exact ⟨fun _ => ⟨0, 0, ByteArray.empty⟩, fun i hi => absurd hi (Nat.not_lt_zero _), Nat.zero_le _⟩
  · simp at hcs
    obtain ⟨rfl, rfl, rfl⟩ := hcs
    have hlm : len0 ≤ m := by rw [hmm]; split <;> omega
    have each : ∀ i, i < len0 → ∃ s : RawStep, W.cell? (a.add (i * 3)) = some (.int .i64 s.what) ∧ W.cell? (a.add (i * 3 + 1)) = some (.int .i64 s.key) ∧ W.cell? (a.add (i * 3 + 2)) = some (.string s.value) ∧
        (-9223372036854775808 ≤ s.what ∧ s.what ≤ 9223372036854775807) ∧ (-9223372036854775808 ≤ s.key ∧ s.key ≤ 9223372036854775807) ∧ s.value.size ≤ maxLen := by
      intro i hi
      obtain ⟨cs', h1, h2⟩ := hel i (by omega)
      rw [Try.cellsStep] at h1
      obtain ⟨_, hlen, hcell⟩ := World.cells?_some h1
      obtain ⟨xs, k, hk, hxy, _, hxl, hf⟩ := DataW.trod_struct Try.underlying27 h2
      match xs, hxl, cs', hlen with
      | [y0, y1, y2], _, [v0, v1, v2], _ =>
        have g0 := hf 0 _ rfl
        have g1 := hf 1 _ rfl
        have g2 := hf 2 _ rfl
        simp [Try.cellsInt, Try.cellsString] at g0 g1 g2
        have e0 := hcell 0 (by omega)
        have e1 := hcell 1 (by omega)
        have e2 := hcell 2 (by omega)
        rw [add_add] at e0 e1 e2
        obtain ⟨n0, c0, _, w0⟩ := DataW.trod_int Try.underlying3 g0
        obtain ⟨n1, c1, _, w1⟩ := DataW.trod_int Try.underlying3 g1
        obtain ⟨s2, c2, _, w2⟩ := DataW.trod_string Try.underlying9 g2
        simp at c0 c1 c2
        subst c0 c1 c2
        exact ⟨⟨n0, n1, s2⟩, by simpa using e0, by simpa using e1, by simpa using e2, wf_i64 w0, wf_i64 w1, w2⟩
    obtain ⟨S, hS⟩ := @choose_lt RawStep ⟨⟨0, 0, ByteArray.empty⟩⟩ len0 _ each
    refine ⟨S, fun i hi => ?_, by omega⟩
    obtain ⟨b, off, spot⟩ := a
    have hspot : spot = none := by
      have h0 := (hS 0 (by omega)).1
      simpa [Addr.add] using World.cell?_spot h0
    subst hspot
    have ea : ∀ j, (⟨b, off, none⟩ : Addr).add j = ⟨b, off + j, none⟩ := fun j => by
      unfold Addr.add
      by_cases hj : j = 0
      · simp [hj]
      · simp [hj]
    obtain ⟨q0, q1, q2, d⟩ := hS i hi
    rw [ea] at q0 q1 q2
    exact ⟨b, off, rfl, World.block_lt_of_cell? _ _ q0, q0, q1, q2, d⟩

set_option maxRecDepth 100000 in
/-- A raw step that came in. -/
theorem step_open {H : Type} {enc : TypeId × Value → H} {W : World} {base : Nat} {spare : Nat → Bool} {held : Bool} {fuel : Nat} {cs : Array Value} {x : DataW H × List MemPlace} (hsz : cs.size = 3)
    (h : DataW.trod enc Try.prog W base spare held fuel 27 cs.toList = some x) : ∃ (x y : Int) (z : ByteArray), cs = #[.int .i64 x, .int .i64 y, .string z] ∧ (-9223372036854775808 ≤ y ∧ y ≤ 9223372036854775807) ∧ z.size ≤ maxLen := by
  obtain ⟨xs, k, hk, hxy, _, hxl, hf⟩ := DataW.trod_struct Try.underlying27 h
  obtain ⟨l⟩ := cs
  match xs, hxl, l, hsz with
  | [y0, y1, y2], _, [v0, v1, v2], _ =>
    have g0 := hf 0 _ rfl
    have g1 := hf 1 _ rfl
    have g2 := hf 2 _ rfl
    simp [Try.cellsInt, Try.cellsString] at g0 g1 g2
    obtain ⟨n0, c0, _, w0⟩ := DataW.trod_int Try.underlying3 g0
    obtain ⟨n1, c1, _, w1⟩ := DataW.trod_int Try.underlying3 g1
    obtain ⟨s2, c2, _, w2⟩ := DataW.trod_string Try.underlying9 g2
    simp at c0 c1 c2
    subst c0 c1 c2
    exact ⟨n0, n1, s2, rfl, wf_i64 w1, w2⟩

set_option maxRecDepth 100000 in
theorem steady_lifted (os : Os) (started : os.Started) (H : Type) (enc : TypeId × Value → H) :
    ReturnsInHanded {} Try.checked os 4 .any (Rows.steadySpec.pre6 enc Try.prog Try.f4 Rows.steadyRow.domain false) (Rows.steadySpec.post enc Try.prog Try.f4 false true false false) := by
  refine returnsInHanded_of_change (C := Try.checked) Try.own started (by kernel_rfl) Try.func4
    (ChangeSpec.witness6 (enc := enc) (C := Try.checked) false ⟨#[], #[.slice none 0 0, .slice none 0 0, .agg #[.int .i64 0, .int .i64 0, .string ⟨#[]⟩]], []⟩ 8 (by kernel_rfl) (by kernel_rfl) (by kernel_rfl) (by kernel_rfl)) ?_
  intro W base args ds gs before hval0 hW hcnd _
  have hval : ∀ (j : Nat) t v, Try.f4.params[j]? = some t → args[j]? = some v → Value.okWide Try.prog W .any base t v := hval0
  have hW' := hW
  obtain ⟨p, q, hA0, hV, rfl, hfz, hnd⟩ := hW
  have hA : DataW.TrodAll enc Try.prog W 0 (fun _ => true) true Try.f4.params.toList args.toList ds p := hA0
  rw [Try.params4] at hA hval
  obtain ⟨v0, vs0, d0, ds0, p0, q0, hargs, rfl, rfl, h0, r0⟩ := trodAll_cons hA
  obtain ⟨v1, vs1, d1, ds1, p1, q1, rfl, rfl, rfl, h1, r1⟩ := trodAll_cons r0
  obtain ⟨v2, vs2, d2, ds2, p2, q2, rfl, rfl, rfl, h2, r2⟩ := trodAll_cons r1
  obtain ⟨rfl, rfl, rfl⟩ := trodAll_nil r2
  obtain rfl : args = #[v0, v1, v2] := by cases args; simp_all
  obtain ⟨rfl, rfl⟩ := trodVars_none hV
  obtain ⟨a0, len0, cap0, rfl⟩ := okWide_slice Try.underlying22 (hval 0 22 v0 rfl rfl)
  obtain ⟨a1, len1, cap1, rfl⟩ := okWide_slice Try.underlying22 (hval 1 22 v1 rfl rfl)
  obtain ⟨cs, rfl, hsz⟩ := okWide_struct Try.underlying27 (hval 2 27 v2 rfl rfl)
  rw [Try.cellsStep] at hsz
  have k0 := h0
  have k1 := h1
  have k2 := h2
  have lt0 : ∀ x ∈ p0, x.block < W.heap.size := by obtain ⟨m, hm⟩ := k0; exact DataW.trod_lt m _ _ _ hm
  have lt1 : ∀ x ∈ p1, x.block < W.heap.size := by obtain ⟨m, hm⟩ := k1; exact DataW.trod_lt m _ _ _ hm
  have lt2 : ∀ x ∈ p2, x.block < W.heap.size := by obtain ⟨m, hm⟩ := k2; exact DataW.trod_lt m _ _ _ hm
  obtain ⟨S0, t0, m0⟩ : ∃ S, StepsAt W a0 len0 S ∧ len0 ≤ maxLen := by
    obtain ⟨fuel, hf⟩ := h0
    exact steps_open (by simpa [Value.cells] using hf)
  obtain ⟨S1, t1, m1⟩ : ∃ S, StepsAt W a1 len1 S ∧ len1 ≤ maxLen := by
    obtain ⟨fuel, hf⟩ := h1
    exact steps_open (by simpa [Value.cells] using hf)
  obtain ⟨x, y, z, rfl, hy, hz⟩ : ∃ (x y : Int) (z : ByteArray), cs = #[.int .i64 x, .int .i64 y, .string z] ∧ (-9223372036854775808 ≤ y ∧ y ≤ 9223372036854775807) ∧ z.size ≤ maxLen := by
    obtain ⟨fuel, hf⟩ := h2
    exact step_open hsz (by simpa [Value.cells] using hf)
  clear hA0 hval0
  refine (steady_any W a0 a1 len0 len1 cap0 cap1 S0 S1 x y z t0 t1 hy hz).mono fun e W' ⟨he, hk⟩ => ?_
  subst he
  have bel : Below W.heap.size W W' := hk.toBelow (Nat.le_refl _) (fun _ _ h => h)
  exact ⟨_, rfl, _, _, _, [], _, [], hW', trodAll_mk1 (shut_bool Try.underlying4 _), (trodAll_cons_mk (Below.trod Try.laidOut (by kernel_rfl) (of_decide_eq_true (by kernel_rfl)) k0 bel lt0) (trodAll_cons_mk (Below.trod Try.laidOut (by kernel_rfl) (of_decide_eq_true (by kernel_rfl)) k1 bel lt1) (trodAll_cons_mk (Below.trod Try.laidOut (by kernel_rfl) (of_decide_eq_true (by kernel_rfl)) k2 bel lt2) trodAll_mk0))), rfl, bel.frame _, fun h => by cases h⟩

theorem steady_holds : Rows.SteadySaid :=
  OpenClaim.holds_of_wide 4 Try.f4 rfl rfl rfl rfl rfl rfl rfl ⟨rfl, rfl, rfl, rfl, rfl⟩ rfl rfl rfl rfl rfl (by kernel_rfl) Try.func4 (by kernel_rfl)
    (of_decide_eq_true (by kernel_rfl)) (by unfold Func.isWrapper; first | (rw [if_pos (by decide +kernel)]; kernel_rfl) | (rw [if_neg (by decide +kernel)]; exact ⟨rfl, rfl⟩))
    (fun os started H enc _ => steady_lifted os started H enc)

end Go.Proofs.Ytfcocbcihhdbkaa
