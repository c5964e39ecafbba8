import Derived.Test.YtnkcmfbmkokjpaaDoorM12

/- Told, walked. -/

namespace Go.Proofs.YtnkcmfbmkokjpaaDoor

open Go.RowKit Go.Shelf

attribute [local go_sem] Oper.semAt_some

/-- a right stream of raw steps -/
theorem stream_all (full : Bool) (oa : Option Addr) (n cap : Nat) (S : Nat → RawStep) (frm to_ : Int) (w : World) (hS : StepsAt w oa n S) (hn : n ≤ maxLen) (hfr : -9223372036854775808 ≤ frm ∧ frm ≤ 9223372036854775807) (hto : -9223372036854775808 ≤ to_ ∧ to_ ≤ 9223372036854775807) :
    Calls Tryd.prog 4 #[.slice oa n cap, .bool full, .int .i64 frm, .int .i64 to_] w fun e w' => ∃ (a b : Nat) (l : List RecB) (ob : Option Addr) (cb : Nat), e = .returned (.agg #[.bool full, .int .i64 (a : Nat), .int .i64 (b : Nat), .slice ob l.length cb]) ∧ Row w' 33 3 (.slice ob l.length cb) l.length (recCs l) ∧ judgeB full a b l = true ∧ l.length ≤ 12 ∧ Keeps (fun _ => False) w w' := by
  obtain ⟨b0, b1⟩ := pick_lt to_ (n := 1000000) (by omega)
  obtain ⟨a0, a1⟩ := pick_lt frm (n := 1000) (by omega)
  cases full with
  | true =>
    refine (stream_true oa n cap S frm to_ w hS hn hfr hto).mono ?_
    rintro e w' ⟨l, ob, cb, rfl, h1, h2, h3⟩
    refine ⟨0, (pickZ to_ 1000000).toNat, l, ob, cb, ?_, h1, ?_, h2.2.2, h3⟩
    · rw [Int.toNat_of_nonneg b0]; rfl
    · rw [Int.toNat_of_nonneg b0]
      refine h2.judge (by omega) ?_
      simp [fitB, stateB]
      omega
  | false =>
    refine (stream_false oa n cap S frm to_ w hS hn hfr hto).mono ?_
    rintro e w' ⟨l, ob, cb, rfl, h1, h2, h3⟩
    refine ⟨(pickZ frm 1000).toNat, (pickZ frm 1000 + 1 + pickZ to_ 1000000).toNat, l, ob, cb, ?_, h1, ?_, h2.2.2, h3⟩
    · rw [Int.toNat_of_nonneg a0, Int.toNat_of_nonneg (by omega)]
    · rw [Int.toNat_of_nonneg a0, Int.toNat_of_nonneg (by omega)]
      refine h2.judge (by omega) ?_
      simp [fitB, stateB]
      omega

set_option maxRecDepth 100000 in
set_option maxHeartbeats 4000000 in
theorem told_any (full : Bool) (oa : Option Addr) (n cap : Nat) (S : Nat → RawStep) (frm to_ at_ by_ : Int) (w : World) (hS : StepsAt w oa n S) (hn : n ≤ maxLen) (hfr : -9223372036854775808 ≤ frm ∧ frm ≤ 9223372036854775807) (hto : -9223372036854775808 ≤ to_ ∧ to_ ≤ 9223372036854775807) (hat : -9223372036854775808 ≤ at_ ∧ at_ ≤ 9223372036854775807) (hby : 0 ≤ by_ ∧ by_ ≤ 255) (hg : Glob w) :
    Calls Tryd.prog 3 #[.slice oa n cap, .bool full, .int .i64 frm, .int .i64 to_, .int .i64 at_, .int .u8 by_] w fun e w' => e = .returned (.bool true) ∧ Keeps (fun _ => False) w w' := by
  have HST := hid (stream_all full oa n cap S frm to_ w hS hn hfr hto)
  have HAT := hid hat
  have HBY := hid hby
  have HG := hid hg
  clear hS hn hfr hto hat hby hg
  go_enter Tryd.func3, Tryd.ntmps3
  go_wp2_with fail
  refine HST.out.mono ?_
  rintro e w1 ⟨a, b, l, ob, cb, rfl, hrow, hj, hl, k1⟩
  clear HST
  obtain ⟨w2, hw2⟩ : ∃ w2, w2 = w1.alloc (.cells #[.bool full, .int .i64 (a : Nat), .int .i64 (b : Nat), .slice ob l.length cb] 25) := ⟨_, rfl⟩
  have HW2 := hid hw2
  have k2 : Keeps (fun _ => False) w1 w2 := by rw [hw2]; exact (Keeps.refl _ _).al _
  have hx2 : w2.heap[w1.heap.size]? = some (.cells #[.bool full, .int .i64 (a : Nat), .int .i64 (b : Nat), .slice ob l.length cb] 25 (0, 0)) := by rw [hw2]; exact heap_new w1 _
  have hr2 := hrow.kept k2 (fun _ _ h => h)
  have hcap : l.length ≤ cb ∧ cb ≤ maxLen := by
    rcases hr2.2 with ⟨e, e'⟩ | ⟨g, c', cur, e, -, h1, h2, -⟩
    · injection e with e1 e2 e3
      exact ⟨by omega, by unfold maxLen; omega⟩
    · injection e with e1 e2 e3
      subst e3
      exact ⟨h1, h2⟩
  have HE := hid (encode_good full a b ob cb l w2 (RecIn.ofRow hr2) hcap.1 hcap.2 (HG.out.kept (k1.tr k2 (fun _ h => h))) hj)
  have hsl := stream_len hj hl
  have hrs := read_self hj
  obtain ⟨s, hs⟩ : ∃ s, s = streamL ⟨full, a, b, l.map RecB.rec_⟩ := ⟨_, rfl⟩
  rw [← hs] at HE hsl hrs
  have HK2 := hid (k1.tr k2 (fun _ h => h))
  have HX2 := hid hx2
  have HR2 := hid hr2
  have HS := hid hs
  have HRS := hid hrs
  have HSL := hid hsl
  have HL := hid hl
  have HJ := hid hj
  clear hw2 k2 hx2 hr2 hcap hsl hrs hs hrow hj hl k1
  go_wp2_with fail
  rw [← HW2.out]
  refine HE.out.mono ?_
  rintro e w3 ⟨rfl, k3⟩
  clear HE
  rw [if_pos rfl]
  have HK3 := hid k3
  have hx3 := (k3.block _ (Array.getElem?_eq_some_iff.1 HX2.out).1 (fun h => h)).trans HX2.out
  have HX3 := hid hx3
  have HR3 := hid (HR2.out.kept k3 (fun _ _ h => h))
  have HKW3 := hid (HK2.out.tr k3 (fun _ h => h))
  have HD := hid (decode_any (ofL s) w3 (by rw [ofL_size]; have := HSL.out; omega) (HG.out.kept HKW3.out))
  rw [ofL_list, HRS.out] at HD
  clear hx3 k3
  go_wp2_with fail
  refine HD.out.mono ?_
  rintro e w4 ⟨⟨oc, cc, rfl, hrow, -⟩, k4⟩
  have hlm : (l.map RecB.rec_).length = l.length := List.length_map ..
  rw [recs_recB, hlm] at hrow
  simp only [hlm]
  obtain ⟨w5, hw5⟩ : ∃ w5, w5 = w4.alloc (.cells #[.bool full, .int .i64 (a : Nat), .int .i64 (b : Nat), .slice oc l.length cc] 25) := ⟨_, rfl⟩
  have k5 : Keeps (fun _ => False) w4 w5 := by rw [hw5]; exact (Keeps.refl _ _).al _
  have k35 := k4.tr k5 (fun _ h => h)
  have hx5 := (k35.block _ (Array.getElem?_eq_some_iff.1 HX3.out).1 (fun h => h)).trans HX3.out
  have hy5 : w5.heap[w4.heap.size]? = some (.cells #[.bool full, .int .i64 (a : Nat), .int .i64 (b : Nat), .slice oc l.length cc] 25 (0, 0)) := by rw [hw5]; exact heap_new w4 _
  have HX5 := hid hx5
  have HY5 := hid hy5
  have HR5 := hid (HR3.out.kept k35 (fun _ _ h => h))
  have HRY := hid (hrow.kept k5 (fun _ _ h => h))
  have HKW5 := hid (HKW3.out.tr k35 (fun _ h => h))
  have HW5 := hid hw5
  obtain ⟨sv, hsv⟩ : ∃ sv, sv = ofL s := ⟨_, rfl⟩
  have HSV := hid hsv
  have hsz : sv.size = s.length := by rw [hsv, ofL_size]
  have hsz1 : (sv.size : Int) ≤ 100000 := by have := HSL.out; omega
  have hsz2 : (4 : Int) ≤ sv.size := by have := HSL.out; omega
  have hne : sv.toList.isEmpty = false := by
    rw [ByteArray.toList_eq, hsv, ofL_list]
    cases hq : s with
    | nil => have := HSL.out; rw [hq] at this; simp at this
    | cons _ _ => rfl
  have HSZ := hid hsz
  rw [← hsv]
  have x0 := cell_of_heap hx5 0
  have x1 := cell_of_heap hx5 1
  have x2 := cell_of_heap hx5 2
  have x3 := cell_of_heap hx5 3
  simp at x0 x1 x2 x3
  rw [hw5] at x0 x1 x2 x3
  have hll : (l.length : Int) ≤ 12 := by have := HL.out; omega
  clear hw5 k5 k35 hx5 hy5 hrow k4 hlm hsv hsz HD
  go_wp2_with fail
  rw [← HW5.out]
  go_loopw [19] (fun i wr => ∃ j : Nat, j ≤ l.length ∧ i = .int .i64 j ∧ Keeps (fun _ => False) w5 wr) (fun i _ => l.length - (intOf i).toNat)
  case atStart => exact ⟨0, Nat.zero_le _, rfl, Keeps.refl _ _⟩
  case round =>
    obtain ⟨j, hj, rfl, kr⟩ := hrel
    have hxr := (kr.block _ (Array.getElem?_eq_some_iff.1 HX5.out).1 (fun h => h)).trans HX5.out
    have hyr := (kr.block _ (Array.getElem?_eq_some_iff.1 HY5.out).1 (fun h => h)).trans HY5.out
    have x3 := cell_of_heap hxr 3
    have y3 := cell_of_heap hyr 3
    simp at x3 y3
    have HXR := hid hxr
    have HYR := hid hyr
    have HKR := hid kr
    have hjI : (j : Int) ≤ l.length := by omega
    clear hxr hyr kr
    by_cases hjl : j < l.length
    · have hjlI : (j : Int) < l.length := by omega
      obtain ⟨x, hx⟩ : ∃ x, l[j]? = some x := ⟨l[j], List.getElem?_eq_getElem hjl⟩
      obtain ⟨ox, cx, e1, -, sx⟩ := HR5.out.form
      obtain ⟨oy, cy, e2, -, sy⟩ := HRY.out.form
      injection e1 with e1 _ e1'
      injection e2 with e2 _ e2'
      subst e1 e1' e2 e2'
      obtain ⟨gx, rfl⟩ := sx (by omega)
      obtain ⟨gy, rfl⟩ := sy (by omega)
      obtain ⟨p0, p1, p2⟩ := RecIn.at_ HR5.out HKR.out hx
      obtain ⟨q0, q1, q2⟩ := RecIn.at_ HRY.out HKR.out hx
      obtain ⟨rk, rv, rg⟩ := x
      have HJL := hid hjl
      clear hj hjl sx sy hx x0 x1 x2
      go_wp2_with fail
      go_region
      go_wp2
      exact ⟨⟨j + 1, HJL.out, by go_num, HKR.out.dr⟩, by simp only [intOf]; have := HJL.out; omega⟩
    · have hjn : ¬ ((j : Int) < l.length) := by omega
      have HP := hid (fun W => pick_any at_ (sv.size : Int) W HAT.out (by omega))
      obtain ⟨kz0, kz1⟩ := pick_lt at_ (n := (sv.size : Int)) (by omega)
      obtain ⟨kn, hkn⟩ : ∃ kn : Nat, pickZ at_ (sv.size : Int) = (kn : Int) := ⟨(pickZ at_ (sv.size : Int)).toNat, (Int.toNat_of_nonneg kz0).symm⟩
      rw [hkn] at HP kz0 kz1
      have HGR := hid (HG.out.kept (HKW5.out.tr HKR.out (fun _ h => h)))
      have HKN : Hid (kn < s.length) := by have := HSZ.out; show _ < _; omega
      have HDA : Hid (Calls Tryd.prog 6 #[.string (sv.extract 0 kn)] wr (DecPost (readO (s.take kn)) wr)) := by
        have h1 := HKN.out
        have h2 := HSZ.out
        have h3 := HSL.out
        have := decode_any (sv.extract 0 kn) wr (by rw [ByteArray.size_extract]; omega) HGR.out
        have e : (sv.extract 0 kn).data.toList = s.take kn := by rw [extract_take, HSV.out, ofL_list]
        rw [e] at this
        exact this
      clear x0 x1 x2 hj hjl hkn hjI
      go_wp2_with fail
      refine (HP.out _).mono ?_
      rintro e wq ⟨rfl, rfl⟩
      clear HP
      go_wp2_with fail
      refine HDA.out.mono ?_
      clear HDA
      rcases hx : readO (s.take kn) with _ | pl | y
      · rintro e w6 ⟨rfl, k6⟩
        unfold strZ
        go_upto_region 13 with (fail)
        obtain ⟨W7, hW7⟩ : ∃ W7, W7 = w6.alloc (.cells #[.bool false, .int .i64 0, .int .i64 0, .slice none 0 0] 25) := ⟨_, rfl⟩
        have HW7 := hid hW7
        rw [← hW7]
        have k7 : Keeps (fun _ => False) w6 W7 := by rw [hW7]; exact (Keeps.refl _ _).al _
        have ha7 : W7.heap[w6.heap.size]? = some (.cells #[.bool false, .int .i64 0, .int .i64 0, .slice none 0 0] 25 (0, 0)) := by rw [hW7]; exact heap_new w6 _
        obtain ⟨c8, w8, hcv, hcells, k8, hz8⟩ := bytes_conv s sv HSV.out W7
        obtain ⟨v8, f8⟩ := hcells kn HKN.out
        have HCE := hid hcells
        obtain ⟨by0, by1⟩ := HBY.out
        have kw : Keeps (fun _ => False) wq W7 := k6.tr k7 (fun _ h => h)
        have HK8 := hid (HKW5.out.tr (HKR.out.tr (kw.tr k8 (fun _ h => h)) (fun _ h => h)) (fun _ h => h))
        have hxb : s[kn]'(HKN.out) = s[kn]'(HKN.out) := rfl
        obtain ⟨xb, hxb⟩ : ∃ xb, xb = s[kn]'(HKN.out) := ⟨_, rfl⟩
        rw [← hxb] at v8
        have HXB := hid hxb
        obtain ⟨m, hm⟩ : ∃ m : Nat, 1 + by_ % 255 = (m : Int) := ⟨(1 + by_ % 255).toNat, (Int.toNat_of_nonneg (by omega)).symm⟩
        have hm1 : 1 ≤ m ∧ m < 256 := by omega
        have hxor : bits .xor .u8 (xb.toNat : Int) (1 + by_ % 255) = (((UInt8.ofNat (xb.toNat ^^^ m)).toNat : Nat) : Int) := by
          have h1 : xb.toNat < 256 := xb.toNat_lt
          rw [hm, xor_u8 h1 hm1.2, toNat_ofNat (Nat.xor_lt_two_pow (n := 8) h1 hm1.2)]
        have hdne := turned_ne (x := xb) hm1.1 hm1.2
        have HM := hid hm
        have HXO := hid hxor
        generalize UInt8.ofNat (xb.toNat ^^^ m) = d at *
        have hcb := bytes_back s w8 W7.heap.size c8 kn d HKN.out HCE.out
        rw [← HSZ.out] at hcb
        obtain ⟨w9, hw9⟩ : ∃ w9, w9 = w8.setCell ⟨W7.heap.size, kn, none⟩ (.int .u8 (d.toNat : Nat)) := ⟨_, rfl⟩
        rw [← hw9] at hcb
        have HW9 := hid hw9
        have k9 : Keeps (fun k => k = W7.heap.size) w8 w9 := by rw [hw9]; exact Keeps.setCell _ ⟨W7.heap.size, kn, none⟩ _
        have hwz : w.heap.size ≤ W7.heap.size := Nat.le_trans HKW5.out.size (Nat.le_trans HKR.out.size kw.size)
        have HK9 := hid (HK8.out.trans k9 (fun i hi e => by have e' : i = W7.heap.size := e; omega))
        have h6z : w6.heap.size < W7.heap.size := (Array.getElem?_eq_some_iff.1 ha7).1
        have ha9 : w9.heap[w6.heap.size]? = some (.cells #[.bool false, .int .i64 0, .int .i64 0, .slice none 0 0] 25 (0, 0)) := (k9.block _ (Nat.lt_trans h6z hz8) (fun e => by have e' : w6.heap.size = W7.heap.size := e; omega)).trans ((k8.block _ h6z (fun h => h)).trans ha7)
        have HA9 := hid ha9
        have HDT := hid (decode_any (ofL (s.set kn d)) w9 (by rw [ofL_size, List.length_set]; have := HSL.out; omega) (HG.out.kept HK9.out))
        have hrt : readO (s.set kn d) = .sum := by
          have h1 := HKN.out
          have h2 := HXB.out
          have h3 := HS.out
          subst h3
          exact read_turned _ h1 (by rw [← h2]; exact hdne)
        rw [ofL_list, hrt] at HDT
        clear hcells hW7 k7 ha7 hm hxor hm1 hdne k9 hw9 h6z ha9 hrt hxb hwz k8 k6 kw HX3 HR3 HK3 HX2 HR2 HRS hx
        go_upto_region 15 with (fail)
        rw [HXO.out, ← HW9.out]
        clear v8 f8 by0 by1 hcv hz8
        go_wp2_with fail
        refine HDT.out.mono ?_
        rintro e w10 ⟨e10, k10⟩
        subst e10
        have k11 := k10.al (.cells #[.bool false, .int .i64 0, .int .i64 0, .slice none 0 0] 25)
        have ha11 := (k11.block _ (Array.getElem?_eq_some_iff.1 HA9.out).1 (fun h => h)).trans HA9.out
        have HK11 := hid (HK9.out.tr k11 (fun _ h => h))
        have a3 := cell_of_heap ha11 3
        simp at a3
        unfold strZ
        clear k10 k11 ha11 HDT
        go_wp2
        go_ret
        exact ⟨rfl, HK11.out⟩
      · rintro e w6 ⟨rfl, k6⟩
        unfold strZ
        go_upto_region 13 with (fail)
        obtain ⟨W7, hW7⟩ : ∃ W7, W7 = w6.alloc (.cells #[.bool false, .int .i64 0, .int .i64 0, .slice none 0 0] 25) := ⟨_, rfl⟩
        have HW7 := hid hW7
        rw [← hW7]
        have k7 : Keeps (fun _ => False) w6 W7 := by rw [hW7]; exact (Keeps.refl _ _).al _
        have ha7 : W7.heap[w6.heap.size]? = some (.cells #[.bool false, .int .i64 0, .int .i64 0, .slice none 0 0] 25 (0, 0)) := by rw [hW7]; exact heap_new w6 _
        obtain ⟨c8, w8, hcv, hcells, k8, hz8⟩ := bytes_conv s sv HSV.out W7
        obtain ⟨v8, f8⟩ := hcells kn HKN.out
        have HCE := hid hcells
        obtain ⟨by0, by1⟩ := HBY.out
        have kw : Keeps (fun _ => False) wq W7 := k6.tr k7 (fun _ h => h)
        have HK8 := hid (HKW5.out.tr (HKR.out.tr (kw.tr k8 (fun _ h => h)) (fun _ h => h)) (fun _ h => h))
        have hxb : s[kn]'(HKN.out) = s[kn]'(HKN.out) := rfl
        obtain ⟨xb, hxb⟩ : ∃ xb, xb = s[kn]'(HKN.out) := ⟨_, rfl⟩
        rw [← hxb] at v8
        have HXB := hid hxb
        obtain ⟨m, hm⟩ : ∃ m : Nat, 1 + by_ % 255 = (m : Int) := ⟨(1 + by_ % 255).toNat, (Int.toNat_of_nonneg (by omega)).symm⟩
        have hm1 : 1 ≤ m ∧ m < 256 := by omega
        have hxor : bits .xor .u8 (xb.toNat : Int) (1 + by_ % 255) = (((UInt8.ofNat (xb.toNat ^^^ m)).toNat : Nat) : Int) := by
          have h1 : xb.toNat < 256 := xb.toNat_lt
          rw [hm, xor_u8 h1 hm1.2, toNat_ofNat (Nat.xor_lt_two_pow (n := 8) h1 hm1.2)]
        have hdne := turned_ne (x := xb) hm1.1 hm1.2
        have HM := hid hm
        have HXO := hid hxor
        generalize UInt8.ofNat (xb.toNat ^^^ m) = d at *
        have hcb := bytes_back s w8 W7.heap.size c8 kn d HKN.out HCE.out
        rw [← HSZ.out] at hcb
        obtain ⟨w9, hw9⟩ : ∃ w9, w9 = w8.setCell ⟨W7.heap.size, kn, none⟩ (.int .u8 (d.toNat : Nat)) := ⟨_, rfl⟩
        rw [← hw9] at hcb
        have HW9 := hid hw9
        have k9 : Keeps (fun k => k = W7.heap.size) w8 w9 := by rw [hw9]; exact Keeps.setCell _ ⟨W7.heap.size, kn, none⟩ _
        have hwz : w.heap.size ≤ W7.heap.size := Nat.le_trans HKW5.out.size (Nat.le_trans HKR.out.size kw.size)
        have HK9 := hid (HK8.out.trans k9 (fun i hi e => by have e' : i = W7.heap.size := e; omega))
        have h6z : w6.heap.size < W7.heap.size := (Array.getElem?_eq_some_iff.1 ha7).1
        have ha9 : w9.heap[w6.heap.size]? = some (.cells #[.bool false, .int .i64 0, .int .i64 0, .slice none 0 0] 25 (0, 0)) := (k9.block _ (Nat.lt_trans h6z hz8) (fun e => by have e' : w6.heap.size = W7.heap.size := e; omega)).trans ((k8.block _ h6z (fun h => h)).trans ha7)
        have HA9 := hid ha9
        have HDT := hid (decode_any (ofL (s.set kn d)) w9 (by rw [ofL_size, List.length_set]; have := HSL.out; omega) (HG.out.kept HK9.out))
        have hrt : readO (s.set kn d) = .sum := by
          have h1 := HKN.out
          have h2 := HXB.out
          have h3 := HS.out
          subst h3
          exact read_turned _ h1 (by rw [← h2]; exact hdne)
        rw [ofL_list, hrt] at HDT
        clear hcells hW7 k7 ha7 hm hxor hm1 hdne k9 hw9 h6z ha9 hrt hxb hwz k8 k6 kw HX3 HR3 HK3 HX2 HR2 HRS hx
        go_upto_region 15 with (fail)
        rw [HXO.out, ← HW9.out]
        clear v8 f8 by0 by1 hcv hz8
        go_wp2_with fail
        refine HDT.out.mono ?_
        rintro e w10 ⟨e10, k10⟩
        subst e10
        have k11 := k10.al (.cells #[.bool false, .int .i64 0, .int .i64 0, .slice none 0 0] 25)
        have ha11 := (k11.block _ (Array.getElem?_eq_some_iff.1 HA9.out).1 (fun h => h)).trans HA9.out
        have HK11 := hid (HK9.out.tr k11 (fun _ h => h))
        have a3 := cell_of_heap ha11 3
        simp at a3
        unfold strZ
        clear k10 k11 ha11 HDT
        go_wp2
        go_ret
        exact ⟨rfl, HK11.out⟩
      · rintro e w6 ⟨⟨oz, cz, rfl, hrz, -⟩, k6⟩
        have HRO := hid (read_ok hx)
        go_upto_region 13 with (fail)
        obtain ⟨W7, hW7⟩ : ∃ W7, W7 = w6.alloc (.cells #[.bool y.full, .int .i64 (y.a : Nat), .int .i64 (y.b : Nat), .slice oz y.recs.length cz] 25) := ⟨_, rfl⟩
        have HW7 := hid hW7
        rw [← hW7]
        have k7 : Keeps (fun _ => False) w6 W7 := by rw [hW7]; exact (Keeps.refl _ _).al _
        have ha7 : W7.heap[w6.heap.size]? = some (.cells #[.bool y.full, .int .i64 (y.a : Nat), .int .i64 (y.b : Nat), .slice oz y.recs.length cz] 25 (0, 0)) := by rw [hW7]; exact heap_new w6 _
        obtain ⟨c8, w8, hcv, hcells, k8, hz8⟩ := bytes_conv s sv HSV.out W7
        obtain ⟨v8, f8⟩ := hcells kn HKN.out
        have HCE := hid hcells
        obtain ⟨by0, by1⟩ := HBY.out
        have kw : Keeps (fun _ => False) wq W7 := k6.tr k7 (fun _ h => h)
        have HK8 := hid (HKW5.out.tr (HKR.out.tr (kw.tr k8 (fun _ h => h)) (fun _ h => h)) (fun _ h => h))
        have hxb : s[kn]'(HKN.out) = s[kn]'(HKN.out) := rfl
        obtain ⟨xb, hxb⟩ : ∃ xb, xb = s[kn]'(HKN.out) := ⟨_, rfl⟩
        rw [← hxb] at v8
        have HXB := hid hxb
        obtain ⟨m, hm⟩ : ∃ m : Nat, 1 + by_ % 255 = (m : Int) := ⟨(1 + by_ % 255).toNat, (Int.toNat_of_nonneg (by omega)).symm⟩
        have hm1 : 1 ≤ m ∧ m < 256 := by omega
        have hxor : bits .xor .u8 (xb.toNat : Int) (1 + by_ % 255) = (((UInt8.ofNat (xb.toNat ^^^ m)).toNat : Nat) : Int) := by
          have h1 : xb.toNat < 256 := xb.toNat_lt
          rw [hm, xor_u8 h1 hm1.2, toNat_ofNat (Nat.xor_lt_two_pow (n := 8) h1 hm1.2)]
        have hdne := turned_ne (x := xb) hm1.1 hm1.2
        have HM := hid hm
        have HXO := hid hxor
        generalize UInt8.ofNat (xb.toNat ^^^ m) = d at *
        have hcb := bytes_back s w8 W7.heap.size c8 kn d HKN.out HCE.out
        rw [← HSZ.out] at hcb
        obtain ⟨w9, hw9⟩ : ∃ w9, w9 = w8.setCell ⟨W7.heap.size, kn, none⟩ (.int .u8 (d.toNat : Nat)) := ⟨_, rfl⟩
        rw [← hw9] at hcb
        have HW9 := hid hw9
        have k9 : Keeps (fun k => k = W7.heap.size) w8 w9 := by rw [hw9]; exact Keeps.setCell _ ⟨W7.heap.size, kn, none⟩ _
        have hwz : w.heap.size ≤ W7.heap.size := Nat.le_trans HKW5.out.size (Nat.le_trans HKR.out.size kw.size)
        have HK9 := hid (HK8.out.trans k9 (fun i hi e => by have e' : i = W7.heap.size := e; omega))
        have h6z : w6.heap.size < W7.heap.size := (Array.getElem?_eq_some_iff.1 ha7).1
        have ha9 : w9.heap[w6.heap.size]? = some (.cells #[.bool y.full, .int .i64 (y.a : Nat), .int .i64 (y.b : Nat), .slice oz y.recs.length cz] 25 (0, 0)) := (k9.block _ (Nat.lt_trans h6z hz8) (fun e => by have e' : w6.heap.size = W7.heap.size := e; omega)).trans ((k8.block _ h6z (fun h => h)).trans ha7)
        have HA9 := hid ha9
        have HDT := hid (decode_any (ofL (s.set kn d)) w9 (by rw [ofL_size, List.length_set]; have := HSL.out; omega) (HG.out.kept HK9.out))
        have hrt : readO (s.set kn d) = .sum := by
          have h1 := HKN.out
          have h2 := HXB.out
          have h3 := HS.out
          subst h3
          exact read_turned _ h1 (by rw [← h2]; exact hdne)
        rw [ofL_list, hrt] at HDT
        have hrz9 : Row w9 33 3 (.slice oz y.recs.length cz) y.recs.length (recCs (y.recs.map recB)) := ((hrz.kept k7 (fun _ _ h => h)).kept k8 (fun _ _ h => h)).kept k9 (fun g hg e => by have e' : g = W7.heap.size := e; have := (hrz.kept k7 (fun _ _ h => h)).lt hg; omega)
        have HRZ9 := hid hrz9
        clear hrz hrz9
        clear hcells hW7 k7 ha7 hm hxor hm1 hdne k9 hw9 h6z ha9 hrt hxb hwz k8 k6 kw HX3 HR3 HK3 HX2 HR2 HRS hx
        go_upto_region 15 with (fail)
        rw [HXO.out, ← HW9.out]
        clear v8 f8 by0 by1 hcv hz8
        go_wp2_with fail
        refine HDT.out.mono ?_
        rintro e w10 ⟨e10, k10⟩
        subst e10
        have k11 := k10.al (.cells #[.bool false, .int .i64 0, .int .i64 0, .slice none 0 0] 25)
        have ha11 := (k11.block _ (Array.getElem?_eq_some_iff.1 HA9.out).1 (fun h => h)).trans HA9.out
        have HK11 := hid (HK9.out.tr k11 (fun _ h => h))
        have a0 := cell_of_heap ha11 0
        have a1 := cell_of_heap ha11 1
        have a2 := cell_of_heap ha11 2
        have a3 := cell_of_heap ha11 3
        simp at a0 a1 a2 a3
        obtain ⟨w11, hw11⟩ : ∃ w11, w11 = w10.alloc (.cells #[.bool false, .int .i64 0, .int .i64 0, .slice none 0 0] 25) := ⟨_, rfl⟩
        have HW11 := hid hw11
        have hrw := HRZ9.out.kept k11 (fun _ _ h => h)
        rw [← hw11] at hrw HK11
        have hml : (y.recs.map recB).length = y.recs.length := List.length_map ..
        have hcap : y.recs.length ≤ cz ∧ cz ≤ maxLen := by
          rcases hrw.2 with ⟨e, e'⟩ | ⟨g, c', cur, e, -, h1, h2, -⟩
          · injection e with e1 e2 e3
            exact ⟨by omega, by unfold maxLen; omega⟩
          · injection e with e1 e2 e3
            subst e3
            exact ⟨h1, h2⟩
        have HEA : Hid (Calls Tryd.prog 5 #[.agg #[.bool y.full, .int .i64 (y.a : Nat), .int .i64 (y.b : Nat), .slice oz y.recs.length cz]] w11 fun e w' => e = .returned (.tuple #[.string (sv.extract 0 kn), .int .i64 0]) ∧ Keeps (fun _ => False) w11 w') := by
          have h1 := encode_good y.full y.a y.b oz cz (y.recs.map recB) w11 (RecIn.ofRow (by rw [hml]; exact hrw)) (by rw [hml]; exact hcap.1) hcap.2 (HG.out.kept HK11.out) HRO.out.2
          rw [hml, recs_back] at h1
          refine h1.mono ?_
          rintro e w' ⟨rfl, k'⟩
          refine ⟨?_, k'⟩
          rw [if_pos rfl]
          have e2 : ofL (streamL ⟨y.full, y.a, y.b, y.recs⟩) = sv.extract 0 kn := by
            show ofL (streamL y) = _
            rw [HRO.out.1]
            apply data_inj
            rw [ofL_list, extract_take, HSV.out, ofL_list]
          rw [e2]
        unfold strZ
        clear k10 k11 ha11 HDT hrw hml hcap hw11
        generalize y.recs.length = yl at *
        go_wp2_with fail
        rw [← HW11.out]
        refine HEA.out.mono ?_
        rintro e w12 ⟨rfl, k12⟩
        have hc12 : ResZ w12 w10.heap.size := ResZ.kept (w := w11) (by rw [HW11.out]; exact heap_new w10 _) k12 (fun h => h)
        obtain ⟨-, -, -, c3, -, -, -, -, -, -, -, -⟩ := hc12.facts
        have HK12 := hid (HK11.out.tr k12 (fun _ h => h))
        clear k12 hc12 HEA
        go_wp2
        go_ret
        exact ⟨rfl, HK12.out⟩

end Go.Proofs.YtnkcmfbmkokjpaaDoor
