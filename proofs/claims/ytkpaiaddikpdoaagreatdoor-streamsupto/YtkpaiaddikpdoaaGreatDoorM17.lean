import Derived.Test.YtkpaiaddikpdoaaGreatDoorM16

/- annalsref: a scan: block with records. -/

namespace Go.Proofs.YtkpaiaddikpdoaaGreatDoor

open Go.RowKit Go.Shelf

attribute [local go_sem] Oper.semAt_some

set_option maxRecDepth 100000 in
set_option maxHeartbeats 4000000 in
theorem scBlock_some (sb : Nat) (text : ByteArray) (l l1 : List UInt8) (n : Nat) (w : World) (h : ScL w sb text l) (hts : text.size ≤ 1000000000000) (hb : bndR 0 4 l = .ok n l1) (hn : n ≠ 0) :
    Calls Tryz.prog 26 #[.pointer (some ⟨sb, 0, none⟩)] w (ScBlk sb text l w) := by
  have HN := hid (scNum_any sb text l 0 4 w h hts (by omega) (by omega))
  rw [hb] at HN
  obtain ⟨i0, hi, hz0, hz1, hz2⟩ := info_parts Tryz.infoRec
  obtain ⟨c0, c1, c2, f1, f2⟩ := h.2.facts
  have hsbw : sb < w.heap.size := (Array.getElem?_eq_some_iff.1 h.2).1
  obtain ⟨p0, hp0⟩ : ∃ p0, p0 = text.size - l.length := ⟨_, rfl⟩
  rw [← hp0] at c1
  have HP0 := hid hp0
  have HPL := hid h.1
  have HTS := hid hts
  have HBD := hid hb
  have HN0 := hid hn
  obtain ⟨-, -, hn4, -⟩ := h.1.bnd hb
  have hn4I : (n : Int) ≤ 4 := by omega
  have hn0B : ((n : Int) == 0) = false := by rw [beq_eq_false_iff_ne]; omega
  have HN4 := hid hn4
  have HSB : Hid (∀ k, k = sb → k < w.heap.size) := fun k e => e ▸ hsbw
  have htsI : (text.size : Int) ≤ 1000000000000 := by omega
  clear h hts hb hn hp0 f1 f2 hn4
  go_enter Tryz.func26, Tryz.ntmps26
  go_wp2_with fail
  refine HN.out.mono ?_
  rintro e w1 ⟨⟨rfl, h1⟩, k1⟩
  obtain ⟨d0, d1, d2, -, -⟩ := h1.2.facts
  have H1 := hid h1
  have K1 := hid k1
  clear h1 k1 HN c0 c1 c2
  go_wp2_with fail
  go_loopw [5, 6, 7] (fun v kv i wr => ∃ k ah done s, i = .int .i64 (k : Nat) ∧ kv = .string ah ∧ k ≤ n ∧ MidS n l1 k ah done s ∧ ScS wr sb text s ∧ MadeX (· = sb) 31 3 RecB.cells w wr v done) (fun _ _ i _ => n - (intOf i).toNat)
  case atStart => exact ⟨0, ⟨#[]⟩, [], .ok () l1, rfl, rfl, Nat.zero_le _, MidS.zero n l1, H1.out, MadeX.nil K1.out⟩
  case round =>
    obtain ⟨k, ah, done, s, rfl, rfl, hkn, hM, hs, hX⟩ := hrel
    have hfew := hM.few HN4.out
    obtain ⟨ob, cb, rfl, -, -⟩ := hX.row.form
    have HM := hid hM
    have HS := hid hs
    have HX := hid hX
    have HKN := hid hkn
    have hahI : (ah.size : Int) ≤ 10 := by omega
    have hknI : (k : Int) ≤ n := by omega
    have hdl : (done.length : Int) ≤ 4 := by omega
    have HFEW := hid hfew
    clear hM hX hkn hfew d0 d1 d2
    by_cases hgo : k < n ∧ ∃ l', s = .ok () l'
    · obtain ⟨hk, l', rfl⟩ := hgo
      obtain ⟨at_, hat, hA⟩ := hs.facts
      obtain ⟨d0, d1, d2, -, -⟩ := hA.facts
      have d2' : wr.cell? ⟨sb, 2, none⟩ = some (.int .i64 (-1)) := d2
      have hkI : (k : Int) < n := by omega
      obtain ⟨c, s1, e1⟩ : ∃ c s1, numS 0 ah.size (.ok () l') = (c, s1) := ⟨_, _, rfl⟩
      obtain ⟨m, s2, e2⟩ : ∃ m s2, numS (1 - c) (10 - c) s1 = (m, s2) := ⟨_, _, rfl⟩
      obtain ⟨x, s3, e3⟩ : ∃ x s3, takeS m s2 = (x, s3) := ⟨_, _, rfl⟩
      obtain ⟨sz, s4, e4⟩ : ∃ sz s4, numS 0 41 s3 = (sz, s4) := ⟨_, _, rfl⟩
      obtain ⟨v, s5, e5⟩ : ∃ v s5, valS sz s4 = (v, s5) := ⟨_, _, rfl⟩
      have hc : c ≤ ah.size := by have := (numS_le (Nat.zero_le ah.size) (.ok () l')).2; rw [e1] at this; exact this
      have hc10 : c ≤ 10 := by have := HFEW.out; omega
      have hm : m ≤ 10 := by have := (numS_le (lo := 1 - c) (hi := 10 - c) (by omega) s1).2; rw [e2] at this; simp only at this; omega
      have hx : x.length ≤ 10 := by have := takeS_len m s2; rw [e3] at this; simp only at this; omega
      have hsz : sz ≤ 41 := by have := (numS_le (lo := 0) (hi := 41) (by omega) s3).2; rw [e4] at this; exact this
      have HNX := hid (HM.out.next HS.out.1 hk HN4.out e1 e2 e3 e4 e5)
      have HC1 := hid (scNum_all sb text (.ok () l') 0 ah.size wr HS.out HTS.out (by omega) (by omega))
      rw [e1] at HC1
      have HC2 : Hid (∀ W, ScS W sb text s1 → Calls Tryz.prog 25 #[.pointer (some ⟨sb, 0, none⟩), .int .i64 ((1 - c : Nat) : Int), .int .i64 (10 - (c : Int))] W (ScNumS sb text W (m, s2))) := fun W hW => by
        have := scNum_all sb text s1 (1 - c) (10 - c) W hW HTS.out (by omega) (by omega)
        rw [e2, show ((10 - c : Nat) : Int) = 10 - (c : Int) by omega] at this
        exact this
      have HC3 : Hid (∀ W, ScS W sb text s2 → Calls Tryz.prog 24 #[.pointer (some ⟨sb, 0, none⟩), .int .i64 (m : Nat)] W (ScTakeS sb text W (x, s3))) := fun W hW => by
        have := scTake_all sb text s2 m W hW HTS.out (by omega)
        rw [e3] at this
        exact this
      have HC4 : Hid (∀ W, ScS W sb text s3 → Calls Tryz.prog 25 #[.pointer (some ⟨sb, 0, none⟩), .int .i64 0, .int .i64 41] W (ScNumS sb text W (sz, s4))) := fun W hW => by
        have := scNum_all sb text s3 0 41 W hW HTS.out (by omega) (by omega)
        rw [e4] at this
        exact this
      have HC5 : Hid (0 < sz → ∀ W, ScS W sb text s4 → Calls Tryz.prog 24 #[.pointer (some ⟨sb, 0, none⟩), .int .i64 ((sz : Int) - 1)] W (ScTakeS sb text W (v, s5))) := fun h0 W hW => by
        have := scTake_all sb text s4 (sz - 1) W hW HTS.out (by omega)
        unfold valS at e5
        rw [if_neg (by omega)] at e5
        rw [e5, show ((sz - 1 : Nat) : Int) = (sz : Int) - 1 by omega] at this
        exact this
      have HV0 : Hid (sz = 0 → v = [] ∧ s5 = s4) := fun h0 => by
        unfold valS at e5
        rw [if_pos h0, Prod.mk.injEq] at e5
        exact ⟨e5.1.symm, e5.2.symm⟩
      have hcI : (c : Int) ≤ ah.size := by omega
      have hc10I : (c : Int) ≤ 10 := by omega
      have hmI : (m : Int) ≤ 10 := by omega
      have hszI : (sz : Int) ≤ 41 := by omega
      have hxs : (ofL x).size ≤ 10 := by rw [ofL_size]; exact hx
      have hadd : ∀ W, (Op.stringOp .add (ah.extract 0 c) (ofL x)).run Tryz.prog W = .ok (.string (ah.extract 0 c ++ ofL x)) W := fun W => run_string_add_sum W _ _ (by rw [ByteArray.size_extract]; omega)
      have HK := hid hk
      have HSZ := hid hsz
      clear e1 e2 e3 e4 e5 hs hA d2 hat hk hc hc10 hm hx hsz hxs
      go_wp2_with fail
      refine HC1.out.mono ?_
      rintro e w2 ⟨rfl, hs2, k2⟩
      have HS2 := hid hs2
      have HK2 := hid k2
      clear hs2 k2 HC1 d0 d1 d2'
      rcases Nat.eq_zero_or_pos c with hc0 | hc0
      all_goals first
        | (have hcB : ((c : Int) == 0) = true := by rw [beq_iff_eq]; omega
           have HC2' : Hid (Calls Tryz.prog 25 #[.pointer (some ⟨sb, 0, none⟩), .int .i64 1, .int .i64 (10 - (c : Int))] w2 (ScNumS sb text w2 (m, s2))) := by
             have := HC2.out w2 HS2.out
             rw [show ((1 - c : Nat) : Int) = 1 by omega] at this
             exact this)
        | (have hcB : ((c : Int) == 0) = false := by rw [beq_eq_false_iff_ne]; omega
           have HC2' : Hid (Calls Tryz.prog 25 #[.pointer (some ⟨sb, 0, none⟩), .int .i64 0, .int .i64 (10 - (c : Int))] w2 (ScNumS sb text w2 (m, s2))) := by
             have := HC2.out w2 HS2.out
             rw [show ((1 - c : Nat) : Int) = 0 by omega] at this
             exact this)
      all_goals
        clear hc0 HC2 HS2
        go_wp2_with fail
        refine HC2'.out.mono ?_
        rintro e w3 ⟨rfl, hs3, k3⟩
        have HC3' := hid (HC3.out w3 hs3)
        have K3 := hid (HK2.out.tr k3 (fun _ h => h))
        clear hs3 k3 HC2' HC3
        go_wp2_with fail
        refine HC3'.out.mono ?_
        rintro e w4 ⟨rfl, hs4, k4⟩
        have HC4' := hid (HC4.out w4 hs4)
        have K4 := hid (K3.out.tr k4 (fun _ h => h))
        clear hs4 k4 HC3' HC4 K3
        go_wp2_with fail
        refine HC4'.out.mono ?_
        rintro e w5 ⟨rfl, hs5, k5⟩
        have HS5 := hid hs5
        have K5 := hid (K4.out.tr k5 (fun _ h => h))
        clear hs5 k5 HC4' K4 hcB
        by_cases hz : sz = 0
        · obtain ⟨hv0, hs0⟩ := HV0.out hz
          subst hv0
          rw [← hs0] at HS5
          have hzB : ((sz : Int) == 0) = true := by rw [beq_iff_eq]; omega
          have hzD : decide (0 < sz) = false := decide_eq_false (by omega)
          have HZD : Hid (decide (sz = 0) = true) := decide_eq_true hz
          have HS6 : Hid (ScS (w5.alloc (.cells #[.string ⟨#[]⟩, .string ⟨#[]⟩, .bool true] 31)) sb text s5) := HS5.out.kept (Keeps.alloc (fun _ => False) _ _) (fun h => h)
          have HS6k : Hid (ScS (w5.alloc (.cells #[.string (ah.extract 0 c ++ ofL x), .string ⟨#[]⟩, .bool true] 31)) sb text s5) := HS5.out.kept (Keeps.alloc (fun _ => False) _ _) (fun h => h)
          have HX6 := hid (HX.out.kept HSB.out (K5.out.al (.cells #[.string (ah.extract 0 c ++ ofL x), .string ⟨#[]⟩, .bool true] 31)))
          obtain ⟨at5, -, hA5⟩ := HS6.out.facts
          obtain ⟨-, -, b2, -, -⟩ := hA5.facts
          clear hA5 hz hs0 HC5 HV0
          rcases HNX.out with ⟨j, rfl, hbad⟩ | ⟨l2, rfl, hgood⟩
          · have HBAD := hid hbad
            obtain ⟨q, hq⟩ : ∃ q, q = text.size - j := ⟨_, rfl⟩
            have b2' : (w5.alloc (.cells #[.string ⟨#[]⟩, .string ⟨#[]⟩, .bool true] 31)).cell? ⟨sb, 2, none⟩ = some (.int .i64 (q : Nat)) := by rw [hq]; exact b2
            have hb0 : ¬ ((q : Int) < 0) := by omega
            clear b2 hq hbad HNX HS6k HX6
            go_wp2
            exact ⟨⟨k + 1, ah, done, .bad j, by go_num, rfl, HK.out, HBAD.out, HS6.out, HX.out.kept HSB.out (K5.out.al _)⟩, by simp only [intOf]; have := HK.out; omega⟩
          · have HGD := hid hgood
            have b2' : (w5.alloc (.cells #[.string ⟨#[]⟩, .string ⟨#[]⟩, .bool true] 31)).cell? ⟨sb, 2, none⟩ = some (.int .i64 (-1)) := b2
            clear b2 hgood HNX
            go_wp2_with (first | (at_builtin; go_must (refine wpList_append_row _ rfl _ _ 32 rfl 31 i0 _ 3 40 Tryz.underlying32 hi hz0 hz1 hz2 rfl (.slice ob done.length cb) done.length _ rfl (HX6.out.row.kept (Keeps.alloc (fun _ => False) _ _) (fun _ _ h => h)) ⟨w5.heap.size + 1, 0, none⟩ 1 1 [.string (ah.extract 0 c ++ ofL x), .string ⟨#[]⟩, .bool true] rfl rfl (news_at _ #[.string (ah.extract 0 c ++ ofL x), .string ⟨#[]⟩, .bool true] _ (by simp)) (by simp [Value.oneCell']) (by unfold maxLen; omega) (by omega) ?_; intro v' w9 hown' hgrow _ hat'; obtain ⟨g', cap', rfl⟩ := hown'.succ; have HN9 := hid (HX6.out.push (a := ⟨ah.extract 0 c ++ ofL x, ⟨#[]⟩, true⟩) (Keeps.alloc (· = sb) _ _) hown' hgrow hat'); have HS9 := hid ((HS6k.out.kept (Keeps.alloc (fun _ => False) _ _) (fun h => h)).kept (Keeps.grown hgrow) (fun e => by have := HX.out.own sb e.symm; omega)); clear hown' hgrow hat')) | fail)
            have hg := HGD.out
            rw [HZD.out] at hg
            exact ⟨⟨k + 1, _, _, .ok () l2, by go_num, rfl, HK.out, hg, HS9.out, HN9.out⟩, by simp only [intOf]; have := HK.out; omega⟩
        · have hzB : ((sz : Int) == 0) = false := by rw [beq_eq_false_iff_ne]; omega
          have hzD : decide (0 < sz) = true := decide_eq_true (by omega)
          have hzI : (sz : Int) > 0 := by omega
          have HZD : Hid (decide (sz = 0) = false) := decide_eq_false hz
          have hw5 : wr.heap.size ≤ w5.heap.size := K5.out.size
          have hwr : w.heap.size ≤ wr.heap.size := HX.out.keep.size
          have HC5' := hid (HC5.out (by omega) (w5.alloc (.cells #[.string ⟨#[]⟩, .string ⟨#[]⟩, .bool false] 31)) (HS5.out.kept (Keeps.alloc (fun _ => False) _ _) (fun h => h)))
          clear HC5 HV0 hz
          go_wp2_with fail
          refine HC5'.out.mono ?_
          rintro e w7 ⟨rfl, hs7, k7⟩
          have xd := (k7.block w5.heap.size (by simp) (fun e => by have e' : w5.heap.size = sb := e; omega)).trans (heap_new w5 _)
          have x0 := cell_of_heap xd 0
          have x1 := cell_of_heap xd 1
          have x2 := cell_of_heap xd 2
          have y0 := frozen_of_heap xd 0
          have y1 := frozen_of_heap xd 1
          simp at x0 x1 x2
          have HS6 : Hid (ScS (w7.setCell ⟨w5.heap.size, 1, none⟩ (.string (ofL v))) sb text s5) := hs7.kept (Keeps.setCell _ _ _) (fun e => by have e' : sb = w5.heap.size := e; omega)
          have HS6k : Hid (ScS ((w7.setCell ⟨w5.heap.size, 1, none⟩ (.string (ofL v))).setCell ⟨w5.heap.size, 0, none⟩ (.string (ah.extract 0 c ++ ofL x))) sb text s5) := HS6.out.kept (Keeps.setCell _ _ _) (fun e => by have e' : sb = w5.heap.size := e; omega)
          have K7 : Hid (Keeps (· = sb) wr (w7.setCell ⟨w5.heap.size, 1, none⟩ (.string (ofL v)))) := ((K5.out.al _).tr k7 (fun _ h => h)).st (p := ⟨w5.heap.size, 1, none⟩) (.inl hw5) _
          have HX6 := hid (HX.out.kept HSB.out (K7.out.st (p := ⟨w5.heap.size, 0, none⟩) (.inl hw5) (.string (ah.extract 0 c ++ ofL x))))
          obtain ⟨at5, -, hA5⟩ := hs7.facts
          obtain ⟨-, -, b2, -, -⟩ := hA5.facts
          have hne : ¬ (sb = w5.heap.size) := by omega
          have hne2 : ¬ (w5.heap.size = sb) := by omega
          clear hA5 hs7 k7 HC5' xd
          rcases HNX.out with ⟨j, rfl, hbad⟩ | ⟨l2, rfl, hgood⟩
          · have HBAD := hid hbad
            obtain ⟨q, hq⟩ : ∃ q, q = text.size - j := ⟨_, rfl⟩
            have b2' : w7.cell? ⟨sb, 2, none⟩ = some (.int .i64 (q : Nat)) := by rw [hq]; exact b2
            have hb0 : ¬ ((q : Int) < 0) := by omega
            clear b2 hq hbad HNX HS6k HX6
            go_wp2
            exact ⟨⟨k + 1, ah, done, .bad j, by go_num, rfl, HK.out, HBAD.out, HS6.out, HX.out.kept HSB.out K7.out⟩, by simp only [intOf]; have := HK.out; omega⟩
          · have HGD := hid hgood
            have b2' : w7.cell? ⟨sb, 2, none⟩ = some (.int .i64 (-1)) := b2
            clear b2 hgood HNX
            go_wp2_with (first | (at_builtin; go_must (refine wpList_append_row _ rfl _ _ 32 rfl 31 i0 _ 3 40 Tryz.underlying32 hi hz0 hz1 hz2 rfl (.slice ob done.length cb) done.length _ rfl (HX6.out.row.kept (Keeps.alloc (fun _ => False) _ _) (fun _ _ h => h)) ⟨w7.heap.size, 0, none⟩ 1 1 [.string (ah.extract 0 c ++ ofL x), .string (ofL v), .bool false] rfl rfl (news_at _ #[.string (ah.extract 0 c ++ ofL x), .string (ofL v), .bool false] _ (by simp)) (by simp [Value.oneCell']) (by unfold maxLen; omega) (by omega) ?_; intro v' w9 hown' hgrow _ hat'; obtain ⟨g', cap', rfl⟩ := hown'.succ; have HN9 := hid (HX6.out.push (a := ⟨ah.extract 0 c ++ ofL x, (ofL v), false⟩) (Keeps.alloc (· = sb) _ _) hown' hgrow hat'); have HS9 := hid ((HS6k.out.kept (Keeps.alloc (fun _ => False) _ _) (fun h => h)).kept (Keeps.grown hgrow) (fun e => by have := HX.out.own sb e.symm; omega)); clear hown' hgrow hat')) | fail)
            have hg := HGD.out
            rw [HZD.out] at hg
            exact ⟨⟨k + 1, _, _, .ok () l2, by go_num, rfl, HK.out, hg, HS9.out, HN9.out⟩, by simp only [intOf]; have := HK.out; omega⟩
    · have hkn2 : (∃ l', s = .ok () l') → k = n := fun h => by
        have := HKN.out
        by_cases h2 : k < n
        · exact absurd ⟨h2, h⟩ hgo
        · omega
      have HK2 := hid hkn2
      obtain ⟨at_, hat, hA, hatl⟩ := hs.at_
      obtain ⟨d0, d1, d2, -, -⟩ := hA.facts
      obtain ⟨x, s', e'⟩ : ∃ x s', takeS 4 s = (x, s') := ⟨_, _, rfl⟩
      have HT : Hid (Calls Tryz.prog 24 #[.pointer (some ⟨sb, 0, none⟩), .int .i64 4] wr (ScTakeS sb text wr (x, s'))) := by
        have := scTake_all sb text s 4 wr hs HTS.out (by omega)
        rw [e'] at this
        exact this
      have HE := hid e'
      have HATL := hid hatl
      have HSO := hid hs
      have hatI : (at_ : Int) ≤ text.size := by omega
      obtain ⟨bd, hbd⟩ : ∃ bd, bd = badI text s := ⟨_, rfl⟩
      rw [← hbd] at d2
      have hcase : ¬ ((k : Int) < n) ∨ ((k : Int) < n ∧ ¬ (bd < 0)) := by
        by_cases h2 : k < n
        · refine .inr ⟨by omega, fun h3 => hgo ⟨h2, ?_⟩⟩
          rw [hbd, badI_lt] at h3
          exact h3
        · exact .inl (by omega)
      clear e' hatl hs hA hat hbd hgo hkn2
      rcases hcase with hcase | ⟨hlt2, hcase⟩
      all_goals
        go_wp2_with fail
        refine HT.out.mono ?_
        rintro e w2 ⟨rfl, hs2, k2⟩
        have K2 := hid k2
        clear k2 HT d0 d1 d2 hcase
        rcases s' with j | ⟨u, l3⟩
        · obtain ⟨at5, -, hA5⟩ := hs2.facts
          obtain ⟨-, -, b2, -, -⟩ := hA5.facts
          have HS2 := hid hs2
          obtain ⟨q, hq⟩ : ∃ q, q = text.size - j := ⟨_, rfl⟩
          have b2' : w2.cell? ⟨sb, 2, none⟩ = some (.int .i64 (q : Nat)) := by rw [hq]; exact b2
          have hb0 : ¬ ((q : Int) < 0) := by omega
          clear b2 hq hA5 hs2
          go_wp2
          go_ret
          exact ⟨_, done, .bad j, rfl, HX.out.kept HSB.out K2.out, HS2.out, HFEW.out.1, by rw [blk_bad HBD.out HN0.out HM.out HK2.out HE.out]⟩
        · obtain ⟨l2, d, rfl, hd, hsh, hbk⟩ := blk_ok HBD.out HN0.out HM.out HK2.out HE.out
          have HD := hid hd
          have hat2 := HATL.out l2 rfl
          obtain ⟨-, -, -, hl1⟩ := HPL.out.bnd HBD.out
          have hll := HPL.out.len
          have hp0 := HP0.out
          have hpa : (p0 : Int) ≤ at_ := by omega
          have hex : text.extract p0 at_ = ofL (l.take (l.length - l2.length)) := by
            have := extract_rest text p0 (l.length - l2.length)
            rw [show p0 + (l.length - l2.length) = at_ by omega] at this
            rw [this, hp0, ← HPL.out]
          have HCK : Hid (∀ W, Calls Tryz.prog 23 #[.string (text.extract p0 at_)] W fun e w' => e = .returned (.string (ofL (checkL (l.take (l.length - l2.length))))) ∧ Keeps (fun _ => False) W w') := fun W => by
            have := refCheck_any (text.extract p0 at_) W (by rw [ByteArray.size_extract]; unfold maxLen; omega)
            rwa [show (text.extract p0 at_).data.toList = l.take (l.length - l2.length) by rw [hex]; rfl] at this
          obtain ⟨b0, b1, b2, -, -⟩ := hs2.2.facts
          have HS2 := hid hs2
          have HBK := hid hbk
          have HA2 := hid hat2
          clear hs2 hbk hat2 hd hsh hl1 hll hp0 hex hn4I
          by_cases hy : x = checkL (l.take (l.length - l2.length))
          · have HY := hid hy
            rw [← hy] at HCK
            clear hy
            go_wp2_with (go_at_call 23; go_must (refine (HCK.out _).mono ?_; rintro e w3 ⟨rfl, k3⟩))
            go_ret
            refine ⟨_, done, .ok () l3, rfl, (HX.out.kept HSB.out K2.out).kept HSB.out (k3.mono (fun _ _ h => h.elim)), ⟨HS2.out.1, HS2.out.2.kept k3 (fun h => h)⟩, HFEW.out.1, ?_⟩
            rw [HBK.out, if_pos HY.out]
            exact ⟨rfl, HD.out⟩
          · have HY := hid hy
            have hne : ((ofL x).toList == (ofL (checkL (l.take (l.length - l2.length)))).toList) = false := (Lib.bytes_beq_false_iff _ _).2 (fun e => hy (by have := congrArg (fun x : ByteArray => x.data.toList) e; exact this))
            have HWR := hid (fun W (hW : Keeps (fun _ => False) w2 W) => wrong_good sb text _ at_ W (HS2.out.2.kept hW (fun h => h)))
            clear hy
            obtain ⟨ck, hck⟩ : ∃ ck, ck = ofL (checkL (l.take (l.length - l2.length))) := ⟨_, rfl⟩
            rw [← hck] at hne HCK
            clear hck
            go_wp2_with (go_at_call 23; go_must (refine (HCK.out _).mono ?_; rintro e w3 ⟨rfl, k3⟩; have K3 := hid k3; clear k3))
            refine (HWR.out _ K3.out).mono ?_
            rintro e w4 ⟨rfl, h4, k4⟩
            have H4 := hid h4
            have K4 := hid k4
            clear h4 k4 HWR
            go_wp2
            go_ret
            refine ⟨_, done, .bad l2.length, rfl, ((HX.out.kept HSB.out K2.out).kept HSB.out (K3.out.mono (fun _ _ h => h.elim))).kept HSB.out K4.out, ⟨text.size - l3.length, Nat.sub_le _ _, by have h9 := H4.out; rw [HA2.out] at h9; exact h9⟩, HFEW.out.1, ?_⟩
            rw [HBK.out, if_neg HY.out]

end Go.Proofs.YtkpaiaddikpdoaaGreatDoor
