import Derived.Test.YtkpaiaddikpdoaaGreatDoorM05

/- annalsref: Blocks. -/
namespace Go.Proofs.YtkpaiaddikpdoaaGreatDoor
open Go.RowKit Go.Shelf

attribute [local go_sem] Oper.semAt_some

theorem Tryz.infoTxt : (Tryz.prog.info? 9).map (fun i => (i.zero, i.size, i.bytes)) = some (some (.string ⟨#[]⟩), 1, 16) := by kernel_rfl
def txtCells (b : ByteArray) : List Value := [.string b]
theorem txt_len (b : ByteArray) : (txtCells b).length = 1 := rfl
def blockT (l : List RecB) (x : Nat) : ByteArray := ofL (blockL ((chunkL l x).map RecB.rec_))
def blocksT (l : List RecB) (n : Nat) : List ByteArray := (List.range n).map (blockT l)
theorem blocksT_next (l : List RecB) (n : Nat) : blocksT l (n + 1) = blocksT l n ++ [blockT l n] := by unfold blocksT; rw [List.range_succ, List.map_append]; rfl
theorem blocksT_len (l : List RecB) (n : Nat) : (blocksT l n).length = n := by unfold blocksT; simp

/-- a record's text, in its pieces -/
theorem rec_pieces (ah : ByteArray) (r : RecB) : ofL (recL ah.data.toList r.rec_) = ofL (numL (common ah.data.toList r.key.data.toList)) ++ ofL (numL (r.key.size - common ah.data.toList r.key.data.toList)) ++ r.key.extract (common ah.data.toList r.key.data.toList) r.key.size ++ ofL (tailOf r.rec_) := by
  unfold recL
  rw [extract_drop, ofL_append, ofL_append, ofL_append]
  congr 1
  simp [RecB.rec_]

theorem tail_gone {r : RecB} (h : r.gone = true) : tailOf r.rec_ = numL 0 := by
  unfold tailOf RecB.rec_
  rw [if_pos h]
theorem tail_value {r : RecB} (h : r.gone = false) : ofL (tailOf r.rec_) = ofL (numL (1 + r.value.size)) ++ r.value := by
  unfold tailOf RecB.rec_
  rw [if_neg (by simp [h])]
  rw [← ofL_append, ofL_self]
  rfl

/-- one record more -/
theorem part_step (l : List RecB) {k : Nat} {r : RecB} (hk : l[k]? = some r) : ofL (partL l (k + 1)) = ofL (partL l k) ++ ofL (recL (aheadB l k).data.toList r.rec_) := by
  obtain ⟨h, rfl⟩ := List.getElem?_eq_some_iff.1 hk
  rw [partL_next h, ofL_append]

theorem part_all (l : List RecB) : partL l l.length = blockB (l.map RecB.rec_) := by
  unfold partL blockB
  rw [List.take_length, List.length_map]
theorem block_text (l : List RecB) (x : Nat) : ofL (partL (chunkL l x) (chunkL l x).length) ++ ofL (checkL (partL (chunkL l x) (chunkL l x).length)) = blockT l x := by
  rw [part_all, ofL_append]
  rfl

set_option maxRecDepth 100000 in
set_option maxHeartbeats 16000000 in
theorem refBlocks_any (oa : Option Addr) (cap : Nat) (l : List RecB) (w : World) (hr : RecIn w oa l) (hl : l.length ≤ 1000) (hs : Small l) :
    Calls Tryz.prog 43 #[.slice oa l.length cap] w fun e w' => ∃ v', e = .returned v' ∧ Made 9 1 txtCells w w' v' (blocksT l ((l.length + 3) / 4)) := by
  obtain ⟨i0, hi, hz0, hz1, hz2⟩ := info_parts Tryz.infoTxt
  have HR := hid hr
  have HL := hid hl
  have HSM := hid hs
  have hlI : (l.length : Int) ≤ 1000 := by omega
  clear hr hl hs
  go_enter Tryz.func43, Tryz.ntmps43
  go_wp2_with fail
  go_loopw [3, 4] (fun v' i wr => ∃ x : Nat, 4 * x ≤ l.length + 3 ∧ i = .int .i64 ((4 * x : Nat) : Int) ∧ Made 9 1 txtCells w wr v' (blocksT l x)) (fun _ i _ => l.length + 4 - (intOf i).toNat)
  case atStart => exact ⟨0, by omega, rfl, Made.nil (Keeps.refl _ _)⟩
  case round =>
    obtain ⟨x, hx, rfl, hM⟩ := hrel
    obtain ⟨ob, cb, rfl, -, -⟩ := hM.row.form
    have HM := hid hM
    clear hM
    obtain ⟨fr, hfr⟩ : ∃ fr, fr = 4 * x := ⟨_, rfl⟩
    rw [← hfr]
    have HFR := hid hfr
    by_cases hlt : fr < l.length
    · have hltI : (fr : Int) < l.length := by omega
      obtain ⟨tn, htn⟩ : ∃ tn : Nat, tn = min (fr + 4) l.length := ⟨_, rfl⟩
      have hch : (chunkL l x).length = tn - fr := by unfold chunkL; rw [List.length_take, List.length_drop]; omega
      have HCH := hid hch
      have htI : (fr : Int) < tn := by omega
      have htl : (tn : Int) ≤ l.length := by omega
      have HTN := hid htn
      have hsub : (tn : Int) - fr = ((tn - fr : Nat) : Int) := by omega
      have HN0 := hid (fun W => refNumber_any 0 (tn - fr) W (by omega) (by omega))
      have HP0 : Hid (ofL (numL (tn - fr)) = ofL (partL (chunkL l x) 0)) := by show _ = _; unfold partL; rw [hch]; simp [recsL]
      rw [HP0.out] at HN0
      have HKW := hid HM.out.keep
      clear hx hlt hfr htn hch
      by_cases hbig : (fr : Int) + 4 > l.length
      · obtain rfl : tn = l.length := by have := HTN.out; omega
        go_wp2_with fail
        refine (HN0.out _).mono ?_
        rintro e w1 ⟨rfl, k1⟩
        have HW1 := hid (HM.out.keep.tr k1 (fun _ h => h))
        have HM1 := hid (HM.out.kept k1)
        clear k1 HN0 HP0
        go_wp2_with fail
        go_loopw [6, 7] (fun sv i W => ∃ i' : Nat, fr ≤ i' ∧ i' ≤ l.length ∧ sv = .string (ofL (partL (chunkL l x) (i' - fr))) ∧ i = .int .i64 i' ∧ Keeps (fun _ => False) w1 W) (fun _ i _ => l.length - (intOf i).toNat)
        case atStart => exact ⟨fr, Nat.le_refl _, by omega, by rw [Nat.sub_self], rfl, Keeps.refl _ _⟩
        case round =>
          obtain ⟨i', h1, h2, rfl, rfl, kr⟩ := hrel
          have HKR := hid kr
          clear kr
          by_cases hi2 : i' < l.length
          · obtain ⟨⟨rk, rv, rg⟩, hx⟩ : ∃ r, l[i']? = some r := ⟨l[i']'(by omega), List.getElem?_eq_getElem (by omega)⟩
            have hxc : (chunkL l x)[i' - fr]? = some ⟨rk, rv, rg⟩ := by
              unfold chunkL
              rw [List.getElem?_take_of_lt (by have := HFR.out; have := HTN.out; omega), List.getElem?_drop, ← HFR.out, show fr + (i' - fr) = i' by omega]
              exact hx
            obtain ⟨hlt', hxe⟩ := List.getElem?_eq_some_iff.1 hx
            obtain ⟨g, off, hoa, c0, c1, c2⟩ := (HR.out.kept (HW1.out.tr HKR.out (fun _ h => h))) i' hlt'
            rw [hxe] at c0 c1 c2
            subst hoa
            have c0 : wr.cell? ⟨g, off + i' * 3, none⟩ = some (.string rk) := c0
            have c1 : wr.cell? ⟨g, off + i' * 3 + 1, none⟩ = some (.string rv) := c1
            have c2 : wr.cell? ⟨g, off + i' * 3 + 2, none⟩ = some (.bool rg) := c2
            have hsm := HSM.out ⟨rk, rv, rg⟩ (List.mem_of_getElem? hx)
            have hpl := partL_len (l := chunkL l x) (chunk_small HSM.out x) (by rw [HCH.out]; omega) (i' - fr) (by rw [HCH.out]; omega)
            have hcm := common_le (aheadB (chunkL l x) (i' - fr)).data.toList rk.data.toList
            have hst := part_step (chunkL l x) hxc
            rw [rec_pieces] at hst
            have HPREV : Hid (i' = fr ∨ ∃ p pr, i' = p + 1 ∧ fr ≤ p ∧ l[p]? = some pr ∧ aheadB (chunkL l x) (i' - fr) = pr.key) := by
              rcases Nat.eq_or_lt_of_le h1 with e | e
              · exact .inl e.symm
              · obtain ⟨pr, hpr⟩ : ∃ r, l[i' - 1]? = some r := ⟨l[i' - 1]'(by omega), List.getElem?_eq_getElem (by omega)⟩
                refine .inr ⟨i' - 1, pr, by omega, by omega, hpr, ?_⟩
                have hc2 : (chunkL l x)[i' - 1 - fr]? = some pr := by
                  unfold chunkL
                  rw [List.getElem?_take_of_lt (by have := HFR.out; have := HTN.out; omega), List.getElem?_drop, ← HFR.out, show fr + (i' - 1 - fr) = i' - 1 by omega]
                  exact hpr
                obtain ⟨h5, h6⟩ := List.getElem?_eq_some_iff.1 hc2
                rw [show i' - fr = (i' - 1 - fr) + 1 by omega, ahead_next h5, h6]
            have HA0 : Hid (i' = fr → common (aheadB (chunkL l x) (i' - fr)).data.toList rk.data.toList = 0) := fun e => by rw [e, Nat.sub_self]; rfl
            have HTL : Hid ((rg = true → ofL (tailOf (RecB.rec_ ⟨rk, rv, rg⟩)) = ofL (numL 0)) ∧ (rg = false → ofL (tailOf (RecB.rec_ ⟨rk, rv, rg⟩)) = ofL (numL (1 + rv.size)) ++ rv)) := ⟨fun e => by rw [tail_gone e], fun e => tail_value e⟩
            have hrk : rk.size ≤ 1000 := hsm.1
            have hrv : rv.size ≤ 1000 := hsm.2
            have hcl : common (aheadB (chunkL l x) (i' - fr)).data.toList rk.data.toList ≤ rk.size := hcm.2
            have hppl : (ofL (partL (chunkL l x) (i' - fr))).size ≤ 100000 := by rw [ofL_size]; have : i' - fr ≤ 4 := (by have := HFR.out; have := HTN.out; omega); omega
            generalize ofL (tailOf (RecB.rec_ ⟨rk, rv, rg⟩)) = TL at hst HTL
            generalize hPP : ofL (partL (chunkL l x) (i' - fr)) = PP at *
            rw [show i' - fr + 1 = i' + 1 - fr by omega] at hst
            obtain ⟨PQ, hPQ⟩ : ∃ PQ, PQ = ofL (partL (chunkL l x) (i' + 1 - fr)) := ⟨_, rfl⟩
            rw [← hPQ] at hst
            have HPQ := hid hPQ
            clear hPQ
            generalize hcc : common (aheadB (chunkL l x) (i' - fr)).data.toList rk.data.toList = c at *
            obtain ⟨d, hd⟩ : ∃ d, d = rk.size - c := ⟨_, rfl⟩
            rw [← hd] at hst
            have HNCn := hid (fun W => refNumber_any 1 c W (by omega) (by omega))
            have HNK := hid (fun W => refNumber_any 1 d W (by omega) (by omega))
            have HN00 : Hid (∀ W, Calls Tryz.prog 44 #[.int .i64 0] W fun e w' => e = .returned (.string (ofL (numL 0))) ∧ Keeps (fun _ => False) W w') := fun W => refNumber_any 1 0 W (by omega) (by omega)
            have HNV := hid (fun W => refNumber_any 1 (1 + rv.size) W (by omega) (by omega))
            have s1 : (ofL (numL c)).size ≤ 2 := by rw [ofL_size]; exact numL_len 1 c (by omega)
            have s2 : (ofL (numL d)).size ≤ 2 := by rw [ofL_size]; exact numL_len 1 d (by omega)
            have s3 : (ofL (numL (1 + rv.size))).size ≤ 2 := by rw [ofL_size]; exact numL_len 1 _ (by omega)
            have s0 : (ofL (numL 0)).size ≤ 2 := by rw [ofL_size]; exact numL_len 1 _ (by omega)
            have s4 : (rk.extract c rk.size).size ≤ 1000 := by rw [ByteArray.size_extract]; omega
            generalize ofL (numL c) = N1 at *
            generalize ofL (numL d) = N2 at *
            generalize ofL (numL (1 + rv.size)) = N3 at *
            generalize ofL (numL 0) = N0 at *
            have hw : IntKind.i64.wrap ((rk.size : Int) - c) = (d : Int) := by rw [IntWalk.i64_in _ ⟨by omega, by omega⟩]; omega
            have hw2 : IntKind.i64.wrap (1 + (rv.size : Int)) = ((1 + rv.size : Nat) : Int) := by rw [IntWalk.i64_in _ ⟨by omega, by omega⟩]; omega
            have hcI : (c : Int) ≤ rk.size := by omega
            have hr1 : ∀ W, (Op.stringOp .add PP N1).run Tryz.prog W = .ok (.string (PP ++ N1)) W := fun W => run_string_add_sum W _ _ (by omega)
            have hr2 : ∀ W, (Op.stringOp .add (PP ++ N1) N2).run Tryz.prog W = .ok (.string (PP ++ N1 ++ N2)) W := fun W => run_string_add_sum W _ _ (by simp only [ByteArray.size_append]; omega)
            have hr3 : ∀ W, (Op.stringOp .add (PP ++ N1 ++ N2) (rk.extract c rk.size)).run Tryz.prog W = .ok (.string (PP ++ N1 ++ N2 ++ rk.extract c rk.size)) W := fun W => run_string_add_sum W _ _ (by simp only [ByteArray.size_append]; omega)
            have hr4 : ∀ W, (Op.stringOp .add (PP ++ N1 ++ N2 ++ rk.extract c rk.size) N3).run Tryz.prog W = .ok (.string (PP ++ N1 ++ N2 ++ rk.extract c rk.size ++ N3)) W := fun W => run_string_add_sum W _ _ (by simp only [ByteArray.size_append]; omega)
            have hr5 : ∀ W, (Op.stringOp .add (PP ++ N1 ++ N2 ++ rk.extract c rk.size ++ N3) rv).run Tryz.prog W = .ok (.string (PP ++ N1 ++ N2 ++ rk.extract c rk.size ++ N3 ++ rv)) W := fun W => run_string_add_sum W _ _ (by simp only [ByteArray.size_append]; omega)
            have hr6 : ∀ W, (Op.stringOp .add (PP ++ N1 ++ N2 ++ rk.extract c rk.size) N0).run Tryz.prog W = .ok (.string (PP ++ N1 ++ N2 ++ rk.extract c rk.size ++ N0)) W := fun W => run_string_add_sum W _ _ (by simp only [ByteArray.size_append]; omega)
            have HFIN : Hid ((rg = true → PQ = PP ++ N1 ++ N2 ++ rk.extract c rk.size ++ N0) ∧ (rg = false → PQ = PP ++ N1 ++ N2 ++ rk.extract c rk.size ++ N3 ++ rv)) := ⟨fun e => by rw [hst, HTL.out.1 e]; simp only [ByteArray.append_assoc], fun e => by rw [hst, HTL.out.2 e]; simp only [ByteArray.append_assoc]⟩
            have hi2I : (i' : Int) < l.length := by omega
            have hfI : (fr : Int) ≤ i' := by omega
            have hi1000 : (i' : Int) < 1000 := by omega
            clear hst HTL hcm hsm hpl hxc hxe hlt' hx HM HKW s1 s2 s3 s0 s4 hppl hcl HCH
            rcases HPREV.out with e | ⟨p, pr, e, hfp, hpr, hah⟩
            · have hc0 : c = 0 := HA0.out e
              subst hc0
              have HNC : Hid (∀ W, Calls Tryz.prog 44 #[.int .i64 0] W fun e w' => e = .returned (.string N1) ∧ Keeps (fun _ => False) W w') := HNCn.out
              have hdz : d = rk.size := by omega
              subst hdz
              have hwz : IntKind.i64.wrap (rk.size : Int) = (rk.size : Int) := IntWalk.i64_in _ ⟨by omega, by omega⟩
              have hnot : ¬ ((i' : Int) > fr) := by omega
              have hx0 : rk.extract 0 rk.size = rk := by rw [extract_drop]; exact ofL_self rk
              rw [hx0] at hr3 hr4 hr5 hr6 HFIN
              clear hx0
              have HCO : Hid (∀ W, Keeps (fun _ => False) wr W → W.cell? ⟨g, off + i' * 3, none⟩ = some (.string rk) ∧ W.cell? ⟨g, off + i' * 3 + 1, none⟩ = some (.string rv) ∧ W.cell? ⟨g, off + i' * 3 + 2, none⟩ = some (.bool rg)) := fun W k => ⟨k.cell c0 (fun h => h), k.cell c1 (fun h => h), k.cell c2 (fun h => h)⟩
              clear HNCn HPREV HA0 hcc hcI e hrk hrv hd hw
              go_wp2_with fail
              go_region_held3 (fun W => W.cell? ⟨g, off + i' * 3, none⟩ = some (.string rk)) (go_keep) (first
                | (go_at_call 44; have hh := HK1.out; clear hh; refine (HNK.out _).mono ?_; rintro e w4 ⟨rfl, k4⟩; have HK4 := hid (HK1.out.tr k4 (fun _ h => h)); obtain ⟨e0, e1, e2⟩ := HCO.out _ HK4.out; clear k4)
                | (go_at_call 44; refine (HNC.out _).mono ?_; rintro e w3 ⟨rfl, k3⟩; have HK1 := hid (((Keeps.refl (fun _ => False) wr).dr).tr k3 (fun _ h => h)); obtain ⟨d0, d1, d2⟩ := HCO.out _ HK1.out; clear k3))
              clear c0 c1 c2 d0 d1 d2
              cases rg with
              | true =>
                have HF := hid (HFIN.out.1 rfl)
                go_wp2_with fail
                refine (HN00.out _).mono ?_
                rintro e w5 ⟨rfl, k5⟩
                have HK5 := hid (HK4.out.tr k5 (fun _ h => h))
                clear k5
                go_wp2
                exact ⟨⟨i' + 1, by omega, by omega, by rw [← HPQ.out, HF.out], by go_num, HKR.out.tr HK5.out (fun _ h => h)⟩, by simp only [intOf]; omega⟩
              | false =>
                have HF := hid (HFIN.out.2 rfl)
                go_wp2_with fail
                go_region_held3 (fun W => W.cell? ⟨g, off + i' * 3 + 1, none⟩ = some (.string rv)) (go_keep) (first | (go_at_call 44; refine (HNV.out _).mono ?_; rintro e w5 ⟨rfl, k5⟩; have HK5 := hid (HK4.out.dr.tr k5 (fun _ h => h)); obtain ⟨q0, q1, q2⟩ := HCO.out _ HK5.out; clear k5))
                go_wp2
                exact ⟨⟨i' + 1, by omega, by omega, by rw [← HPQ.out, HF.out], by go_num, HKR.out.tr HK5.out (fun _ h => h)⟩, by simp only [intOf]; omega⟩
            · have HPI := hid e
              obtain ⟨pk, pv, pg⟩ := pr
              have hpk := hah
              obtain ⟨hlp, hpe⟩ := List.getElem?_eq_some_iff.1 hpr
              obtain ⟨g2, off2, hoa2, cp, -, -⟩ := (HR.out.kept (HW1.out.tr HKR.out (fun _ h => h))) p hlp
              rw [hpe] at cp
              have cp : wr.cell? ⟨g2, off2 + p * 3, none⟩ = some (.string pk) := cp
              simp only [Option.some.injEq, Addr.mk.injEq] at hoa2
              obtain ⟨rfl, rfl, -⟩ := hoa2
              have HAL : Hid (∀ W, Calls Tryz.prog 61 #[.string pk, .string rk] W fun e w' => e = .returned (.int .i64 (c : Nat)) ∧ Keeps (fun _ => False) W w') := fun W => by
                have := alike_any pk rk W (by have h9 : pk.size ≤ 1000 := (HSM.out ⟨pk, pv, pg⟩ (List.mem_of_getElem? hpr)).1; unfold maxLen; omega)
                rw [← hcc, hah]
                exact this
              have HNC := HNCn
              have hgt : ((i' : Int) > fr) := by omega
              have hpI : (p : Int) < l.length := by omega
              have HCO : Hid (∀ W, Keeps (fun _ => False) wr W → W.cell? ⟨g, off + i' * 3, none⟩ = some (.string rk) ∧ W.cell? ⟨g, off + i' * 3 + 1, none⟩ = some (.string rv) ∧ W.cell? ⟨g, off + i' * 3 + 2, none⟩ = some (.bool rg)) := fun W k => ⟨k.cell c0 (fun h => h), k.cell c1 (fun h => h), k.cell c2 (fun h => h)⟩
              have HCP : Hid (∀ W, Keeps (fun _ => False) wr W → W.cell? ⟨g, off + p * 3, none⟩ = some (.string pk)) := fun W k => k.cell cp (fun h => h)
              clear HNCn HPREV HA0 hcc hah hpk hpr hpe hlp e hfp hrk hrv hd
              have hwp : IntKind.i64.wrap ((i' : Int) - 1) = (p : Int) := by rw [IntWalk.i64_in ((i' : Int) - 1) ⟨by have := HPI.out; omega, by have := HPI.out; omega⟩]; have := HPI.out; omega
              go_wp2_with fail
              go_region_held3 (fun W => W.cell? ⟨g, off + p * 3, none⟩ = some (.string pk) ∧ W.cell? ⟨g, off + i' * 3, none⟩ = some (.string rk)) (go_keep) (first | (go_at_call 61; refine (HAL.out _).mono ?_; rintro e w2 ⟨rfl, k2⟩; have HKA := hid ((Keeps.refl (fun _ => False) wr).dr.tr k2 (fun _ h => h)); obtain ⟨a0, a1, a2⟩ := HCO.out _ HKA.out; have ap := HCP.out _ HKA.out; clear k2))
              clear c0 c1 c2 cp
              go_wp2_with fail
              go_region_held3 (fun W => W.cell? ⟨g, off + i' * 3, none⟩ = some (.string rk)) (go_keep) (first
                | (go_at_call 44; have hh := HK1.out; clear hh; refine (HNK.out _).mono ?_; rintro e w4 ⟨rfl, k4⟩; have HK4 := hid (HK1.out.tr k4 (fun _ h => h)); obtain ⟨e0, e1, e2⟩ := HCO.out _ HK4.out; clear k4)
                | (go_at_call 44; refine (HNC.out _).mono ?_; rintro e w3 ⟨rfl, k3⟩; have HK1 := hid ((HKA.out.dr).tr k3 (fun _ h => h)); obtain ⟨d0, d1, d2⟩ := HCO.out _ HK1.out; clear k3))
              clear a0 a1 a2 ap d0 d1 d2
              cases rg with
              | true =>
                have HF := hid (HFIN.out.1 rfl)
                go_wp2_with fail
                refine (HN00.out _).mono ?_
                rintro e w5 ⟨rfl, k5⟩
                have HK5 := hid (HK4.out.tr k5 (fun _ h => h))
                clear k5
                go_wp2
                exact ⟨⟨i' + 1, by omega, by omega, by rw [← HPQ.out, HF.out], by go_num, HKR.out.tr HK5.out (fun _ h => h)⟩, by simp only [intOf]; omega⟩
              | false =>
                have HF := hid (HFIN.out.2 rfl)
                go_wp2_with fail
                go_region_held3 (fun W => W.cell? ⟨g, off + i' * 3 + 1, none⟩ = some (.string rv)) (go_keep) (first | (go_at_call 44; refine (HNV.out _).mono ?_; rintro e w5 ⟨rfl, k5⟩; have HK5 := hid (HK4.out.dr.tr k5 (fun _ h => h)); obtain ⟨q0, q1, q2⟩ := HCO.out _ HK5.out; clear k5))
                go_wp2
                exact ⟨⟨i' + 1, by omega, by omega, by rw [← HPQ.out, HF.out], by go_num, HKR.out.tr HK5.out (fun _ h => h)⟩, by simp only [intOf]; omega⟩
          · have HE : Hid (i' = l.length) := by show _ = _; omega
            have hnI : ¬ ((i' : Int) < l.length) := by have := HE.out; omega
            have hi1 : i' - fr = (chunkL l x).length := by rw [HCH.out, HE.out]
            have hpl := partL_len (l := chunkL l x) (chunk_small HSM.out x) (by rw [HCH.out]; omega) (i' - fr) (by omega)
            rw [hi1] at hpl ⊢
            have hbt := block_text l x
            have HCK := hid (fun W => refCheck_any (ofL (partL (chunkL l x) (chunkL l x).length)) W (by rw [ofL_size]; unfold maxLen; omega))
            rw [ofL_list] at HCK
            have sb : (ofL (partL (chunkL l x) (chunkL l x).length)).size ≤ 100000 := by rw [ofL_size]; have := HCH.out; have := HFR.out; have := HTN.out; omega
            have sc : (ofL (checkL (partL (chunkL l x) (chunkL l x).length))).size = 4 := by rw [ofL_size]; rfl
            generalize ofL (checkL (partL (chunkL l x) (chunkL l x).length)) = CK at *
            generalize ofL (partL (chunkL l x) (chunkL l x).length) = BB at *
            have hr1 : ∀ W, (Op.stringOp .add BB CK).run Tryz.prog W = .ok (.string (blockT l x)) W := fun W => by rw [← hbt]; exact run_string_add_sum W _ _ (by omega)
            have HMR := hid (HM1.out.kept HKR.out)
            have hbl : ((blocksT l x).length : Int) ≤ 1000 := by rw [blocksT_len]; have := HFR.out; omega
            have HBL : Hid ((blocksT l x).length ≤ 1000) := by show _ ≤ _; omega
            have HNX : Hid (blocksT l (x + 1) = blocksT l x ++ [blockT l x]) := blocksT_next l x
            have h4 : (fr : Int) < 1000 := by omega
            clear hbt sb sc hpl hi1 HM1 HM HKW h1 h2 hi2
            generalize blockT l x = BT at *
            generalize hob : (blocksT l x).length = nb at *
            generalize blocksT l x = bs at *
            go_wp2_with fail
            refine (HCK.out _).mono ?_
            rintro e w2 ⟨rfl, k2⟩
            have HM2 := hid (HMR.out.kept k2)
            clear k2 HCK
            subst hob
            go_wp2_with (first | (at_builtin; go_must (refine wpList_append_row _ rfl _ _ 23 rfl 9 i0 _ 1 16 Tryz.underlying23 hi hz0 hz1 hz2 rfl (.slice ob bs.length cb) bs.length _ rfl (HM2.out.row.kept (Keeps.alloc (fun _ => False) _ _) (fun _ _ h => h)) ⟨w2.heap.size, 0, none⟩ 1 1 [.string BT] rfl rfl (news_arr _ #[.string BT] _) (by simp [Value.oneCell']) (by have := HBL.out; unfold maxLen; omega) (by have := HBL.out; omega) ?_; intro v' w3 hown' hgrow _ hat; obtain ⟨g', cap', rfl⟩ := hown'.succ; have HN := hid (HM2.out.push (a := BT) (Keeps.alloc (fun _ => False) _ _) hown' hgrow hat); clear hown' hgrow hat)) | fail)
            refine ⟨⟨x + 1, by have := HFR.out; omega, by have := HFR.out; congr 1; omega, by rw [HNX.out]; exact HN.out.slice (by simp)⟩, ?_⟩
            simp only [intOf]
            have := HFR.out
            omega
      · obtain rfl : tn = fr + 4 := by have := HTN.out; omega
        have e4 : fr + 4 - fr = 4 := by omega
        rw [e4] at HN0
        clear hsub
        go_wp2_with fail
        rw [show ((fr : Int) + 4 - fr) = ((4 : Nat) : Int) by omega]
        refine (HN0.out _).mono ?_
        rintro e w1 ⟨rfl, k1⟩
        have HW1 := hid (HM.out.keep.tr k1 (fun _ h => h))
        have HM1 := hid (HM.out.kept k1)
        clear k1 HN0 HP0
        go_wp2_with fail
        go_loopw [6, 7] (fun sv i W => ∃ i' : Nat, fr ≤ i' ∧ i' ≤ fr + 4 ∧ sv = .string (ofL (partL (chunkL l x) (i' - fr))) ∧ i = .int .i64 i' ∧ Keeps (fun _ => False) w1 W) (fun _ i _ => fr + 4 - (intOf i).toNat)
        case atStart => exact ⟨fr, Nat.le_refl _, by omega, by rw [Nat.sub_self], rfl, Keeps.refl _ _⟩
        case round =>
          obtain ⟨i', h1, h2, rfl, rfl, kr⟩ := hrel
          have HKR := hid kr
          clear kr
          by_cases hi2 : i' < fr + 4
          · obtain ⟨⟨rk, rv, rg⟩, hx⟩ : ∃ r, l[i']? = some r := ⟨l[i']'(by omega), List.getElem?_eq_getElem (by omega)⟩
            have hxc : (chunkL l x)[i' - fr]? = some ⟨rk, rv, rg⟩ := by
              unfold chunkL
              rw [List.getElem?_take_of_lt (by have := HFR.out; have := HTN.out; omega), List.getElem?_drop, ← HFR.out, show fr + (i' - fr) = i' by omega]
              exact hx
            obtain ⟨hlt', hxe⟩ := List.getElem?_eq_some_iff.1 hx
            obtain ⟨g, off, hoa, c0, c1, c2⟩ := (HR.out.kept (HW1.out.tr HKR.out (fun _ h => h))) i' hlt'
            rw [hxe] at c0 c1 c2
            subst hoa
            have c0 : wr.cell? ⟨g, off + i' * 3, none⟩ = some (.string rk) := c0
            have c1 : wr.cell? ⟨g, off + i' * 3 + 1, none⟩ = some (.string rv) := c1
            have c2 : wr.cell? ⟨g, off + i' * 3 + 2, none⟩ = some (.bool rg) := c2
            have hsm := HSM.out ⟨rk, rv, rg⟩ (List.mem_of_getElem? hx)
            have hpl := partL_len (l := chunkL l x) (chunk_small HSM.out x) (by rw [HCH.out]; omega) (i' - fr) (by rw [HCH.out]; omega)
            have hcm := common_le (aheadB (chunkL l x) (i' - fr)).data.toList rk.data.toList
            have hst := part_step (chunkL l x) hxc
            rw [rec_pieces] at hst
            have HPREV : Hid (i' = fr ∨ ∃ p pr, i' = p + 1 ∧ fr ≤ p ∧ l[p]? = some pr ∧ aheadB (chunkL l x) (i' - fr) = pr.key) := by
              rcases Nat.eq_or_lt_of_le h1 with e | e
              · exact .inl e.symm
              · obtain ⟨pr, hpr⟩ : ∃ r, l[i' - 1]? = some r := ⟨l[i' - 1]'(by omega), List.getElem?_eq_getElem (by omega)⟩
                refine .inr ⟨i' - 1, pr, by omega, by omega, hpr, ?_⟩
                have hc2 : (chunkL l x)[i' - 1 - fr]? = some pr := by
                  unfold chunkL
                  rw [List.getElem?_take_of_lt (by have := HFR.out; have := HTN.out; omega), List.getElem?_drop, ← HFR.out, show fr + (i' - 1 - fr) = i' - 1 by omega]
                  exact hpr
                obtain ⟨h5, h6⟩ := List.getElem?_eq_some_iff.1 hc2
                rw [show i' - fr = (i' - 1 - fr) + 1 by omega, ahead_next h5, h6]
            have HA0 : Hid (i' = fr → common (aheadB (chunkL l x) (i' - fr)).data.toList rk.data.toList = 0) := fun e => by rw [e, Nat.sub_self]; rfl
            have HTL : Hid ((rg = true → ofL (tailOf (RecB.rec_ ⟨rk, rv, rg⟩)) = ofL (numL 0)) ∧ (rg = false → ofL (tailOf (RecB.rec_ ⟨rk, rv, rg⟩)) = ofL (numL (1 + rv.size)) ++ rv)) := ⟨fun e => by rw [tail_gone e], fun e => tail_value e⟩
            have hrk : rk.size ≤ 1000 := hsm.1
            have hrv : rv.size ≤ 1000 := hsm.2
            have hcl : common (aheadB (chunkL l x) (i' - fr)).data.toList rk.data.toList ≤ rk.size := hcm.2
            have hppl : (ofL (partL (chunkL l x) (i' - fr))).size ≤ 100000 := by rw [ofL_size]; have : i' - fr ≤ 4 := (by have := HFR.out; have := HTN.out; omega); omega
            generalize ofL (tailOf (RecB.rec_ ⟨rk, rv, rg⟩)) = TL at hst HTL
            generalize hPP : ofL (partL (chunkL l x) (i' - fr)) = PP at *
            rw [show i' - fr + 1 = i' + 1 - fr by omega] at hst
            obtain ⟨PQ, hPQ⟩ : ∃ PQ, PQ = ofL (partL (chunkL l x) (i' + 1 - fr)) := ⟨_, rfl⟩
            rw [← hPQ] at hst
            have HPQ := hid hPQ
            clear hPQ
            generalize hcc : common (aheadB (chunkL l x) (i' - fr)).data.toList rk.data.toList = c at *
            obtain ⟨d, hd⟩ : ∃ d, d = rk.size - c := ⟨_, rfl⟩
            rw [← hd] at hst
            have HNCn := hid (fun W => refNumber_any 1 c W (by omega) (by omega))
            have HNK := hid (fun W => refNumber_any 1 d W (by omega) (by omega))
            have HN00 : Hid (∀ W, Calls Tryz.prog 44 #[.int .i64 0] W fun e w' => e = .returned (.string (ofL (numL 0))) ∧ Keeps (fun _ => False) W w') := fun W => refNumber_any 1 0 W (by omega) (by omega)
            have HNV := hid (fun W => refNumber_any 1 (1 + rv.size) W (by omega) (by omega))
            have s1 : (ofL (numL c)).size ≤ 2 := by rw [ofL_size]; exact numL_len 1 c (by omega)
            have s2 : (ofL (numL d)).size ≤ 2 := by rw [ofL_size]; exact numL_len 1 d (by omega)
            have s3 : (ofL (numL (1 + rv.size))).size ≤ 2 := by rw [ofL_size]; exact numL_len 1 _ (by omega)
            have s0 : (ofL (numL 0)).size ≤ 2 := by rw [ofL_size]; exact numL_len 1 _ (by omega)
            have s4 : (rk.extract c rk.size).size ≤ 1000 := by rw [ByteArray.size_extract]; omega
            generalize ofL (numL c) = N1 at *
            generalize ofL (numL d) = N2 at *
            generalize ofL (numL (1 + rv.size)) = N3 at *
            generalize ofL (numL 0) = N0 at *
            have hw : IntKind.i64.wrap ((rk.size : Int) - c) = (d : Int) := by rw [IntWalk.i64_in _ ⟨by omega, by omega⟩]; omega
            have hw2 : IntKind.i64.wrap (1 + (rv.size : Int)) = ((1 + rv.size : Nat) : Int) := by rw [IntWalk.i64_in _ ⟨by omega, by omega⟩]; omega
            have hcI : (c : Int) ≤ rk.size := by omega
            have hr1 : ∀ W, (Op.stringOp .add PP N1).run Tryz.prog W = .ok (.string (PP ++ N1)) W := fun W => run_string_add_sum W _ _ (by omega)
            have hr2 : ∀ W, (Op.stringOp .add (PP ++ N1) N2).run Tryz.prog W = .ok (.string (PP ++ N1 ++ N2)) W := fun W => run_string_add_sum W _ _ (by simp only [ByteArray.size_append]; omega)
            have hr3 : ∀ W, (Op.stringOp .add (PP ++ N1 ++ N2) (rk.extract c rk.size)).run Tryz.prog W = .ok (.string (PP ++ N1 ++ N2 ++ rk.extract c rk.size)) W := fun W => run_string_add_sum W _ _ (by simp only [ByteArray.size_append]; omega)
            have hr4 : ∀ W, (Op.stringOp .add (PP ++ N1 ++ N2 ++ rk.extract c rk.size) N3).run Tryz.prog W = .ok (.string (PP ++ N1 ++ N2 ++ rk.extract c rk.size ++ N3)) W := fun W => run_string_add_sum W _ _ (by simp only [ByteArray.size_append]; omega)
            have hr5 : ∀ W, (Op.stringOp .add (PP ++ N1 ++ N2 ++ rk.extract c rk.size ++ N3) rv).run Tryz.prog W = .ok (.string (PP ++ N1 ++ N2 ++ rk.extract c rk.size ++ N3 ++ rv)) W := fun W => run_string_add_sum W _ _ (by simp only [ByteArray.size_append]; omega)
            have hr6 : ∀ W, (Op.stringOp .add (PP ++ N1 ++ N2 ++ rk.extract c rk.size) N0).run Tryz.prog W = .ok (.string (PP ++ N1 ++ N2 ++ rk.extract c rk.size ++ N0)) W := fun W => run_string_add_sum W _ _ (by simp only [ByteArray.size_append]; omega)
            have HFIN : Hid ((rg = true → PQ = PP ++ N1 ++ N2 ++ rk.extract c rk.size ++ N0) ∧ (rg = false → PQ = PP ++ N1 ++ N2 ++ rk.extract c rk.size ++ N3 ++ rv)) := ⟨fun e => by rw [hst, HTL.out.1 e]; simp only [ByteArray.append_assoc], fun e => by rw [hst, HTL.out.2 e]; simp only [ByteArray.append_assoc]⟩
            have hi2I : (i' : Int) < (fr : Int) + 4 := by omega
            have hfI : (fr : Int) ≤ i' := by omega
            have hi1000 : (i' : Int) < 1000 := by omega
            have hilI : (i' : Int) < l.length := by omega
            clear hst HTL hcm hsm hpl hxc hxe hlt' hx HM HKW s1 s2 s3 s0 s4 hppl hcl HCH
            rcases HPREV.out with e | ⟨p, pr, e, hfp, hpr, hah⟩
            · have hc0 : c = 0 := HA0.out e
              subst hc0
              have HNC : Hid (∀ W, Calls Tryz.prog 44 #[.int .i64 0] W fun e w' => e = .returned (.string N1) ∧ Keeps (fun _ => False) W w') := HNCn.out
              have hdz : d = rk.size := by omega
              subst hdz
              have hwz : IntKind.i64.wrap (rk.size : Int) = (rk.size : Int) := IntWalk.i64_in _ ⟨by omega, by omega⟩
              have hnot : ¬ ((i' : Int) > fr) := by omega
              have hx0 : rk.extract 0 rk.size = rk := by rw [extract_drop]; exact ofL_self rk
              rw [hx0] at hr3 hr4 hr5 hr6 HFIN
              clear hx0
              have HCO : Hid (∀ W, Keeps (fun _ => False) wr W → W.cell? ⟨g, off + i' * 3, none⟩ = some (.string rk) ∧ W.cell? ⟨g, off + i' * 3 + 1, none⟩ = some (.string rv) ∧ W.cell? ⟨g, off + i' * 3 + 2, none⟩ = some (.bool rg)) := fun W k => ⟨k.cell c0 (fun h => h), k.cell c1 (fun h => h), k.cell c2 (fun h => h)⟩
              clear HNCn HPREV HA0 hcc hcI e hrk hrv hd hw
              go_wp2_with fail
              go_region_held3 (fun W => W.cell? ⟨g, off + i' * 3, none⟩ = some (.string rk)) (go_keep) (first
                | (go_at_call 44; have hh := HK1.out; clear hh; refine (HNK.out _).mono ?_; rintro e w4 ⟨rfl, k4⟩; have HK4 := hid (HK1.out.tr k4 (fun _ h => h)); obtain ⟨e0, e1, e2⟩ := HCO.out _ HK4.out; clear k4)
                | (go_at_call 44; refine (HNC.out _).mono ?_; rintro e w3 ⟨rfl, k3⟩; have HK1 := hid (((Keeps.refl (fun _ => False) wr).dr).tr k3 (fun _ h => h)); obtain ⟨d0, d1, d2⟩ := HCO.out _ HK1.out; clear k3))
              clear c0 c1 c2 d0 d1 d2
              cases rg with
              | true =>
                have HF := hid (HFIN.out.1 rfl)
                go_wp2_with fail
                refine (HN00.out _).mono ?_
                rintro e w5 ⟨rfl, k5⟩
                have HK5 := hid (HK4.out.tr k5 (fun _ h => h))
                clear k5
                go_wp2
                exact ⟨⟨i' + 1, by omega, by omega, by rw [← HPQ.out, HF.out], by go_num, HKR.out.tr HK5.out (fun _ h => h)⟩, by simp only [intOf]; omega⟩
              | false =>
                have HF := hid (HFIN.out.2 rfl)
                go_wp2_with fail
                go_region_held3 (fun W => W.cell? ⟨g, off + i' * 3 + 1, none⟩ = some (.string rv)) (go_keep) (first | (go_at_call 44; refine (HNV.out _).mono ?_; rintro e w5 ⟨rfl, k5⟩; have HK5 := hid (HK4.out.dr.tr k5 (fun _ h => h)); obtain ⟨q0, q1, q2⟩ := HCO.out _ HK5.out; clear k5))
                go_wp2
                exact ⟨⟨i' + 1, by omega, by omega, by rw [← HPQ.out, HF.out], by go_num, HKR.out.tr HK5.out (fun _ h => h)⟩, by simp only [intOf]; omega⟩
            · have HPI := hid e
              obtain ⟨pk, pv, pg⟩ := pr
              have hpk := hah
              obtain ⟨hlp, hpe⟩ := List.getElem?_eq_some_iff.1 hpr
              obtain ⟨g2, off2, hoa2, cp, -, -⟩ := (HR.out.kept (HW1.out.tr HKR.out (fun _ h => h))) p hlp
              rw [hpe] at cp
              have cp : wr.cell? ⟨g2, off2 + p * 3, none⟩ = some (.string pk) := cp
              simp only [Option.some.injEq, Addr.mk.injEq] at hoa2
              obtain ⟨rfl, rfl, -⟩ := hoa2
              have HAL : Hid (∀ W, Calls Tryz.prog 61 #[.string pk, .string rk] W fun e w' => e = .returned (.int .i64 (c : Nat)) ∧ Keeps (fun _ => False) W w') := fun W => by
                have := alike_any pk rk W (by have h9 : pk.size ≤ 1000 := (HSM.out ⟨pk, pv, pg⟩ (List.mem_of_getElem? hpr)).1; unfold maxLen; omega)
                rw [← hcc, hah]
                exact this
              have HNC := HNCn
              have hgt : ((i' : Int) > fr) := by omega
              have hpI : (p : Int) < l.length := by omega
              have HCO : Hid (∀ W, Keeps (fun _ => False) wr W → W.cell? ⟨g, off + i' * 3, none⟩ = some (.string rk) ∧ W.cell? ⟨g, off + i' * 3 + 1, none⟩ = some (.string rv) ∧ W.cell? ⟨g, off + i' * 3 + 2, none⟩ = some (.bool rg)) := fun W k => ⟨k.cell c0 (fun h => h), k.cell c1 (fun h => h), k.cell c2 (fun h => h)⟩
              have HCP : Hid (∀ W, Keeps (fun _ => False) wr W → W.cell? ⟨g, off + p * 3, none⟩ = some (.string pk)) := fun W k => k.cell cp (fun h => h)
              clear HNCn HPREV HA0 hcc hah hpk hpr hpe hlp e hfp hrk hrv hd
              have hwp : IntKind.i64.wrap ((i' : Int) - 1) = (p : Int) := by rw [IntWalk.i64_in ((i' : Int) - 1) ⟨by have := HPI.out; omega, by have := HPI.out; omega⟩]; have := HPI.out; omega
              go_wp2_with fail
              go_region_held3 (fun W => W.cell? ⟨g, off + p * 3, none⟩ = some (.string pk) ∧ W.cell? ⟨g, off + i' * 3, none⟩ = some (.string rk)) (go_keep) (first | (go_at_call 61; refine (HAL.out _).mono ?_; rintro e w2 ⟨rfl, k2⟩; have HKA := hid ((Keeps.refl (fun _ => False) wr).dr.tr k2 (fun _ h => h)); obtain ⟨a0, a1, a2⟩ := HCO.out _ HKA.out; have ap := HCP.out _ HKA.out; clear k2))
              clear c0 c1 c2 cp
              go_wp2_with fail
              go_region_held3 (fun W => W.cell? ⟨g, off + i' * 3, none⟩ = some (.string rk)) (go_keep) (first
                | (go_at_call 44; have hh := HK1.out; clear hh; refine (HNK.out _).mono ?_; rintro e w4 ⟨rfl, k4⟩; have HK4 := hid (HK1.out.tr k4 (fun _ h => h)); obtain ⟨e0, e1, e2⟩ := HCO.out _ HK4.out; clear k4)
                | (go_at_call 44; refine (HNC.out _).mono ?_; rintro e w3 ⟨rfl, k3⟩; have HK1 := hid ((HKA.out.dr).tr k3 (fun _ h => h)); obtain ⟨d0, d1, d2⟩ := HCO.out _ HK1.out; clear k3))
              clear a0 a1 a2 ap d0 d1 d2
              cases rg with
              | true =>
                have HF := hid (HFIN.out.1 rfl)
                go_wp2_with fail
                refine (HN00.out _).mono ?_
                rintro e w5 ⟨rfl, k5⟩
                have HK5 := hid (HK4.out.tr k5 (fun _ h => h))
                clear k5
                go_wp2
                exact ⟨⟨i' + 1, by omega, by omega, by rw [← HPQ.out, HF.out], by go_num, HKR.out.tr HK5.out (fun _ h => h)⟩, by simp only [intOf]; omega⟩
              | false =>
                have HF := hid (HFIN.out.2 rfl)
                go_wp2_with fail
                go_region_held3 (fun W => W.cell? ⟨g, off + i' * 3 + 1, none⟩ = some (.string rv)) (go_keep) (first | (go_at_call 44; refine (HNV.out _).mono ?_; rintro e w5 ⟨rfl, k5⟩; have HK5 := hid (HK4.out.dr.tr k5 (fun _ h => h)); obtain ⟨q0, q1, q2⟩ := HCO.out _ HK5.out; clear k5))
                go_wp2
                exact ⟨⟨i' + 1, by omega, by omega, by rw [← HPQ.out, HF.out], by go_num, HKR.out.tr HK5.out (fun _ h => h)⟩, by simp only [intOf]; omega⟩
          · have HE : Hid (i' = fr + 4) := by show _ = _; omega
            have hnI : ¬ ((i' : Int) < (fr : Int) + 4) := by have := HE.out; omega
            have hi1 : i' - fr = (chunkL l x).length := by rw [HCH.out, HE.out]
            have hpl := partL_len (l := chunkL l x) (chunk_small HSM.out x) (by rw [HCH.out]; omega) (i' - fr) (by omega)
            rw [hi1] at hpl ⊢
            have hbt := block_text l x
            have HCK := hid (fun W => refCheck_any (ofL (partL (chunkL l x) (chunkL l x).length)) W (by rw [ofL_size]; unfold maxLen; omega))
            rw [ofL_list] at HCK
            have sb : (ofL (partL (chunkL l x) (chunkL l x).length)).size ≤ 100000 := by rw [ofL_size]; have := HCH.out; have := HFR.out; have := HTN.out; omega
            have sc : (ofL (checkL (partL (chunkL l x) (chunkL l x).length))).size = 4 := by rw [ofL_size]; rfl
            generalize ofL (checkL (partL (chunkL l x) (chunkL l x).length)) = CK at *
            generalize ofL (partL (chunkL l x) (chunkL l x).length) = BB at *
            have hr1 : ∀ W, (Op.stringOp .add BB CK).run Tryz.prog W = .ok (.string (blockT l x)) W := fun W => by rw [← hbt]; exact run_string_add_sum W _ _ (by omega)
            have HMR := hid (HM1.out.kept HKR.out)
            have hbl : ((blocksT l x).length : Int) ≤ 1000 := by rw [blocksT_len]; have := HFR.out; omega
            have HBL : Hid ((blocksT l x).length ≤ 1000) := by show _ ≤ _; omega
            have HNX : Hid (blocksT l (x + 1) = blocksT l x ++ [blockT l x]) := blocksT_next l x
            have h4 : (fr : Int) < 1000 := by omega
            clear hbt sb sc hpl hi1 HM1 HM HKW h1 h2 hi2
            generalize blockT l x = BT at *
            generalize hob : (blocksT l x).length = nb at *
            generalize blocksT l x = bs at *
            go_wp2_with fail
            refine (HCK.out _).mono ?_
            rintro e w2 ⟨rfl, k2⟩
            have HM2 := hid (HMR.out.kept k2)
            clear k2 HCK
            subst hob
            go_wp2_with (first | (at_builtin; go_must (refine wpList_append_row _ rfl _ _ 23 rfl 9 i0 _ 1 16 Tryz.underlying23 hi hz0 hz1 hz2 rfl (.slice ob bs.length cb) bs.length _ rfl (HM2.out.row.kept (Keeps.alloc (fun _ => False) _ _) (fun _ _ h => h)) ⟨w2.heap.size, 0, none⟩ 1 1 [.string BT] rfl rfl (news_arr _ #[.string BT] _) (by simp [Value.oneCell']) (by have := HBL.out; unfold maxLen; omega) (by have := HBL.out; omega) ?_; intro v' w3 hown' hgrow _ hat; obtain ⟨g', cap', rfl⟩ := hown'.succ; have HN := hid (HM2.out.push (a := BT) (Keeps.alloc (fun _ => False) _ _) hown' hgrow hat); clear hown' hgrow hat)) | fail)
            refine ⟨⟨x + 1, by have := HFR.out; omega, by have := HFR.out; congr 1; omega, by rw [HNX.out]; exact HN.out.slice (by simp)⟩, ?_⟩
            simp only [intOf]
            have := HFR.out
            omega
    · go_wp2
      go_ret
      refine ⟨_, rfl, ?_⟩
      have e : x = (l.length + 3) / 4 := by omega
      rw [← e]
      exact HM.out

end Go.Proofs.YtkpaiaddikpdoaaGreatDoor
