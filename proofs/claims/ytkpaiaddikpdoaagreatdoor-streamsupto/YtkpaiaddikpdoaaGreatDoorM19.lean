import Derived.Test.YtkpaiaddikpdoaaGreatDoorM18

/- annalsref: Decode of a text whose check is right. -/

namespace Go.Proofs.YtkpaiaddikpdoaaGreatDoor

open Go.RowKit Go.Shelf

attribute [local go_sem] Oper.semAt_some

theorem scNum_big (sb : Nat) (text : ByteArray) (s : Rd Unit) (w : World) (h : ScS w sb text s) (hts : text.size ≤ 1000000000000) :
    Calls Tryz.prog 25 #[.pointer (some ⟨sb, 0, none⟩), .int .i64 0, .int .i64 34359738367] w (ScNumS sb text w (numS 0 34359738367 s)) := scNum_all sb text s 0 34359738367 w h hts (by omega) (by omega)

set_option maxRecDepth 100000 in
set_option maxHeartbeats 4000000 in
theorem refDecode_core (text : ByteArray) (w : World) (h4 : 4 ≤ text.size) (hts : text.size ≤ 1000000000) (heq : text.data.toList.drop (text.data.toList.length - 4) = checkL (text.data.toList.take (text.data.toList.length - 4))) :
    Calls Tryz.prog 13 #[.string text] w (DecPost (coreO text.data.toList (coreR (text.data.toList.take (text.data.toList.length - 4)))) w) := by
  obtain ⟨i0, hi, hz0, hz1, hz2⟩ := info_parts Tryz.infoRec
  have hlen : text.data.toList.length = text.size := rfl
  rw [hlen] at heq ⊢
  obtain ⟨n, hn⟩ : ∃ n : Nat, text.size = n + 4 := ⟨text.size - 4, by omega⟩
  have hsub : (text.size : Int) - 4 = (n : Int) := by omega
  rw [show text.size - 4 = n by omega] at heq ⊢
  have hck : ∀ W, Calls Tryz.prog 23 #[.string (text.extract 0 n)] W fun e w' => e = .returned (.string (text.extract n text.size)) ∧ Keeps (fun _ => False) W w' := fun W => by
    have := refCheck_any (text.extract 0 n) W (by rw [ByteArray.size_extract]; unfold maxLen; omega)
    rw [extract_take text n, ← heq, ← extract_drop text n] at this
    exact this
  have HC := hid hck
  have hnI : (n : Int) ≤ 1000000000 := by omega
  have hnS : (n : Int) ≤ text.size := by omega
  have HN := hid hn
  have HTS : Hid (n ≤ 1000000000) := by show _ ≤ _; omega
  have HX : Hid ((text.extract 0 n).data.toList = text.data.toList.take n) := extract_take text n
  have HXS : Hid ((text.extract 0 n).size = n) := by show _ = _; rw [ByteArray.size_extract]; omega
  obtain ⟨tx, htx⟩ : ∃ tx, tx = text.extract 0 n := ⟨_, rfl⟩
  obtain ⟨l, hl⟩ : ∃ l, l = text.data.toList.take n := ⟨_, rfl⟩
  rw [← htx, ← hl] at HX
  rw [← htx] at HXS
  have HTX := hid htx
  obtain ⟨res, hres⟩ : ∃ res, res = coreO text.data.toList (coreR l) := ⟨_, rfl⟩
  rw [← hl, ← hres]
  have HR := hid hres
  clear hck heq hts h4 hlen hn hres hl htx
  go_enter Tryz.func13, Tryz.ntmps13
  go_wp2
  go_region_held3 (fun _ => True) (go_keep) (first | (go_at_call 23; refine (HC.out _).mono ?_; rintro e w2 ⟨rfl, k2⟩; have D2 : Hid (ResZ w2 w.heap.size) := (k2.block w.heap.size (by simp; omega) (fun h => h)).trans (((Keeps.alloc (fun _ => False) (w.alloc (.cells #[.bool false, .int .i64 0, .int .i64 0, .slice none 0 0] 34)) (.cells #[.bool false, .int .i64 0, .int .i64 0, .slice none 0 0] 34)).block w.heap.size (by simp) (fun h => h)).trans (heap_new w _)); have E2 : Hid (ResZ w2 (w.heap.size + 1)) := (k2.block (w.heap.size + 1) (by simp) (fun h => h)).trans (by have := heap_new (w.alloc (.cells #[.bool false, .int .i64 0, .int .i64 0, .slice none 0 0] 34)) (.cells #[.bool false, .int .i64 0, .int .i64 0, .slice none 0 0] 34); rw [World.size_alloc] at this; exact this); have HK2 : Hid (Keeps (fun _ => False) w w2) := ((((Keeps.refl (fun _ => False) w).al _).al _).dr).tr k2 (fun _ h => h); have HZ2 : Hid (w.heap.size + 2 ≤ w2.heap.size) := (by have := k2.size; simp at this; show _ ≤ _; omega); clear k2))
  clear HC
  go_wp2_with fail
  rw [← HTX.out]
  have HD0 : Hid (DcAt w w2.heap.size (w2.heap.size + 1) tx false 0 0 (.slice none 0 0) [] (.ok () l) ((w2.alloc (.cells #[.string tx, .int .i64 0, .int .i64 (-1)] 68)).alloc (.cells #[.bool false, .int .i64 0, .int .i64 0, .slice none 0 0] 34))) := by
    have ka := Keeps.alloc (fun _ => False) w2 (.cells #[.string tx, .int .i64 0, .int .i64 (-1)] 68)
    have kb := Keeps.alloc (fun _ => False) (w2.alloc (.cells #[.string tx, .int .i64 0, .int .i64 (-1)] 68)) (.cells #[.bool false, .int .i64 0, .int .i64 0, .slice none 0 0] 34)
    have kc := ka.tr kb (fun _ h => h)
    have hz := HZ2.out
    refine ⟨?_, ?_, Row.nil _ _ _, fun g hg => (by cases hg), D2.out.kept kc (fun h => h), E2.out.kept kc (fun h => h), HK2.out.tr kc (fun _ h => h), by omega, by omega⟩
    · have hp : Place tx tx.data.toList := place_rest (text := tx) (at_ := 0) (Nat.zero_le _)
      have hL : tx.data.toList.length = tx.size := rfl
      rw [← HX.out]
      refine ⟨hp, ?_⟩
      rw [hL, Nat.sub_self]
      exact (kb.block _ (by simp) (fun h => h)).trans (heap_new w2 _)
    · have := heap_new (w2.alloc (.cells #[.string tx, .int .i64 0, .int .i64 (-1)] 68)) (.cells #[.bool false, .int .i64 0, .int .i64 0, .slice none 0 0] 34)
      rw [World.size_alloc] at this
      exact this
  have HLN : Hid (l.length = n ∧ n = tx.size) := ⟨by rw [← HX.out, ← HXS.out]; rfl, HXS.out.symm⟩
  generalize (w2.alloc (.cells #[.string tx, .int .i64 0, .int .i64 (-1)] 68)).alloc (.cells #[.bool false, .int .i64 0, .int .i64 0, .slice none 0 0] 34) = W3 at *
  clear D2 E2 HK2 HZ2
  obtain ⟨xb, hxb⟩ : ∃ xb, xb = w2.heap.size + 1 := ⟨_, rfl⟩
  rw [← hxb] at HD0 ⊢
  generalize w2.heap.size = sb at *
  clear hxb
  obtain ⟨x, s1, e1⟩ : ∃ x s1, takeS 4 (.ok () l) = (x, s1) := ⟨_, _, rfl⟩
  have hts : tx.size ≤ 1000000000000 := by have h1 := HLN.out; have h2 := HTS.out; omega
  have HTX2 := hid hts
  have HT := hid (scTake_all sb tx (.ok () l) 4 W3 HD0.out.scan hts (by omega))
  rw [e1] at HT
  have HE1 := hid e1
  clear e1 hts
  by_cases hkt : ¬ (x = kindL true ∨ x = kindL false)
  · have b1 : ((ofL x).toList == [65, 78, 78, 70]) = false := by
      have := ofL_ne (b := #[65, 78, 78, 70]) (fun e => hkt (.inl e))
      rwa [ByteArray.toList_eq (⟨#[65, 78, 78, 70]⟩ : ByteArray)] at this
    have b2 : ((ofL x).toList == [65, 78, 78, 68]) = false := by
      have := ofL_ne (b := #[65, 78, 78, 68]) (fun e => hkt (.inr e))
      rwa [ByteArray.toList_eq (⟨#[65, 78, 78, 68]⟩ : ByteArray)] at this
    have er : res = .bad 0 := by
      rw [HR.out]
      unfold coreR
      rw [kindS_bad HE1.out (fun e => hkt (.inl e)) (fun e => hkt (.inr e)), Rd.bind_bad]
      unfold coreO
      simp only
      congr 1
      have h1 := HLN.out.1
      have h2 : text.data.toList.length = n + 4 := HN.out
      omega
    subst er
    clear hkt HR
    refine HT.out.mono ?_
    rintro e w4 ⟨rfl, hs4, k4⟩
    have HD4 := hid (HD0.out.call k4 hs4)
    obtain ⟨a0, a1, a2, a3, b0, b1', b2', b3, q0, q1, q2, q3⟩ := HD4.out.res.facts
    obtain ⟨x0, x1, x2, x3, -, -, -, -, -, -, -, -⟩ := HD4.out.none_.facts
    clear hs4 k4 HT HD0
    go_wp2
    refine bodyPost_ret (v := .tuple #[strZ, .int .i64 0, .int .i64 6]) ?_ rfl ?_
    · unfold strZ
      rw [results_cell_two rfl]
      go_simp
    · exact ⟨rfl, HD4.out.keep⟩
  have HT' : Hid ((∃ l1, kindR l = .ok true l1 ∧ Calls Tryz.prog 24 #[.pointer (some ⟨sb, 0, none⟩), .int .i64 4] W3 fun e w' => e = .returned (.string ⟨#[65, 78, 78, 70]⟩) ∧ ScS w' sb tx (.ok () l1) ∧ Keeps (· = sb) W3 w') ∨ (∃ l1, kindR l = .ok false l1 ∧ Calls Tryz.prog 24 #[.pointer (some ⟨sb, 0, none⟩), .int .i64 4] W3 fun e w' => e = .returned (.string ⟨#[65, 78, 78, 68]⟩) ∧ ScS w' sb tx (.ok () l1) ∧ Keeps (· = sb) W3 w')) := by
    rcases Classical.not_not.1 hkt with h | h
    · obtain ⟨l1, h1, h2⟩ := kindS_ok HE1.out h
      subst h h2
      exact .inl ⟨l1, h1, HT.out⟩
    · obtain ⟨l1, h1, h2⟩ := kindS_ok HE1.out h
      subst h h2
      exact .inr ⟨l1, h1, HT.out⟩
  clear HT HE1 hkt
  rcases HT'.out with ⟨l1, hk1, hT⟩ | ⟨l1, hk1, hT⟩
  all_goals
    have HK1 := hid hk1
    have HT := hid hT
    clear HT' hT hk1
    refine HT.out.mono ?_
    rintro e w4 ⟨rfl, hs4, k4⟩
    have HD4 := hid (HD0.out.call k4 hs4)
    have t0 := cell_of_heap HD4.out.top 0
    have f0 := frozen_of_heap HD4.out.top 0
    simp at t0
    clear hs4 k4 HT HD0
    go_wp2_with fail
    first
      | (have h5 : ∃ kk W5, w4.setCell ⟨xb, 0, none⟩ (.bool true) = W5 ∧ Hid (kindR l = .ok kk l1) ∧ Hid (DcAt w sb xb tx kk 0 0 (.slice none 0 0) [] (.ok () l1) W5) := by exact ⟨true, _, rfl, HK1, HD4.out.putFull _⟩)
      | (have h5 : ∃ kk W5, w4.setCell ⟨xb, 0, none⟩ (.bool false) = W5 ∧ Hid (kindR l = .ok kk l1) ∧ Hid (DcAt w sb xb tx kk 0 0 (.slice none 0 0) [] (.ok () l1) W5) := by exact ⟨false, _, rfl, HK1, HD4.out.putFull _⟩)
    obtain ⟨kk, W5, hW5, HKB, HD5⟩ := h5
    clear HK1
    have HA1 := hid (scNum_big sb tx (.ok () l1) W5 HD5.out.scan HTX2.out)
    obtain ⟨a, s2, e2⟩ : ∃ a s2, numS 0 34359738367 (.ok () l1) = (a, s2) := ⟨_, _, rfl⟩
    obtain ⟨b, s3, e3⟩ : ∃ b s3, numS 0 34359738367 s2 = (b, s3) := ⟨_, _, rfl⟩
    rw [e2] at HA1
    have HE2 := hid e2
    have HE3 := hid e3
    have HA2 : Hid (∀ W, ScS W sb tx s2 → Calls Tryz.prog 25 #[.pointer (some ⟨sb, 0, none⟩), .int .i64 0, .int .i64 34359738367] W (ScNumS sb tx W (b, s3))) := fun W hW => by
      have := scNum_big sb tx s2 W hW HTX2.out
      rw [e3] at this
      exact this
    clear e2 e3 t0 f0
    rw [hW5]
    refine HA1.out.mono ?_
    rintro e w5 ⟨rfl, hs5, k5⟩
    have HD6 := hid (HD5.out.call k5 hs5)
    have t1 := cell_of_heap HD6.out.top 1
    have f1 := frozen_of_heap HD6.out.top 1
    simp at t1
    have HA3 := hid (HA2.out _ (HD6.out.putA a).scan)
    have HD7 := hid (HD6.out.putA a)
    clear hs5 k5 HA1 HD5 hW5 HA2
    go_wp2_with fail
    refine HA3.out.mono ?_
    rintro e w6 ⟨rfl, hs6, k6⟩
    have HD8 := hid (HD7.out.call k6 hs6)
    have t2 := cell_of_heap HD8.out.top 2
    have f2 := frozen_of_heap HD8.out.top 2
    simp at t2
    have HD9 := hid (HD8.out.putB b)
    have HLP : Hid (LpS (l.length + 1) s3 true [] s3) := LpS.zero (fun l3 e => by
      subst e
      have h1 := HD9.out.scan.1.len
      have h2 := HLN.out
      omega)
    have HL3 : Hid (∀ l3, s3 = .ok () l3 → l3.length ≤ 1000000000) := fun l3 e => by
      subst e
      have h1 := HD9.out.scan.1.len
      have h2 := HLN.out
      have h3 := HTS.out
      omega
    clear hs6 k6 HA3 HD7 HD6 HD4 t1 f1
    go_wp2_with fail
    go_loopw [10] (fun m wr => ∃ more acc v s, m = .bool more ∧ DcAt w sb xb tx kk a b v acc s wr ∧ LpS (l.length + 1) s3 more acc s) (fun m wr => scM tx sb m wr)
    case atStart => exact ⟨true, [], _, s3, rfl, HD9.out, HLP.out⟩
    case round =>
      obtain ⟨wo, rfl⟩ : ∃ wo, wo = wr := ⟨_, rfl⟩
      obtain ⟨more, acc, v, s, rfl, hD, hLp⟩ := hrel
      have hfew := hLp.few HL3.out
      obtain ⟨ob, cb, rfl, -, -⟩ := hD.row.form
      have HD := hid hD
      have HLp := hid hLp
      have HFEW := hid hfew
      have haI : (acc.length : Int) ≤ 4000000004 := by omega
      clear hD hLp hfew t2 f2
      by_cases hgo : more = true ∧ ∃ l', s = .ok () l'
      · obtain ⟨rfl, l', rfl⟩ := hgo
        obtain ⟨-, -, d2, -, -⟩ := HD.out.scan.2.facts
        have HBL := hid (scBlock_any sb tx l' wo HD.out.scan HTX2.out)
        go_wp2_with fail
        refine HBL.out.mono ?_
        rintro e w7 ⟨vx, x, s', rfl, hX, hs7, hB⟩
        have hx4 := hB.1
        obtain ⟨ox, cx, rfl, -, sx⟩ := hX.row.form
        have HD1 := hid (HD.out.call hX.keep hs7)
        have HX7 := hid hX
        have HB := hid hB
        have SX := hid sx
        have hx4I : (x.length : Int) ≤ 4 := by omega
        have HXN : Hid (∀ g, (Value.slice ob acc.length cb).ownBlock = some g → (Value.slice ox x.length cx).ownBlock ≠ some g) := fun g hg e => by
          have h1 := hX.own g e
          have h2 := HD.out.row.lt hg
          omega
        clear hX hs7 hB sx d2 HBL
        go_wp2_with fail
        go_loopw [12] (fun i wq => ∃ (k : Nat) (v2 : Value), k ≤ x.length ∧ i = .int .i64 (k : Nat) ∧ DcAt w sb xb tx kk a b v2 (acc ++ x.take k) s' wq ∧ Row wq 31 3 (.slice ox x.length cx) x.length (x.flatMap RecB.cells) ∧ ∀ g, v2.ownBlock = some g → (Value.slice ox x.length cx).ownBlock ≠ some g) (fun i _ => x.length - (intOf i).toNat)
        case atStart => exact ⟨0, _, Nat.zero_le _, rfl, by rw [List.take_zero, List.append_nil]; exact HD1.out, HX7.out.row, HXN.out⟩
        case round =>
          obtain ⟨k, v2, hk, rfl, hD2, hR2, hN2⟩ := hrel
          have hkI : (k : Int) ≤ x.length := by omega
          by_cases hkx : k < x.length
          · obtain ⟨gx, rfl⟩ := SX.out (by omega)
            obtain ⟨r0, r1, r2⟩ := rec_cells (l := x) hR2 k hkx
            obtain ⟨o2, c2, rfl, -, -⟩ := hD2.row.form
            have hkxI : (k : Int) < x.length := by omega
            obtain ⟨y, hy⟩ : ∃ y, y = x[k] := ⟨_, rfl⟩
            rw [← hy] at r0 r1 r2
            have HTK : Hid (acc ++ x.take (k + 1) = (acc ++ x.take k) ++ [y]) := by
              show _ = _
              rw [hy, List.append_assoc, List.take_succ_eq_append_getElem hkx]
            have HD2 := hid hD2
            have HR2 := hid hR2
            have HN2 := hid hN2
            have hal : (acc ++ x.take k).length ≤ 4000000008 := by rw [List.length_append, List.length_take]; have := HFEW.out; omega
            have HAL := hid hal
            have halI : ((acc ++ x.take k).length : Int) ≤ 4000000008 := by omega
            clear hD2
            generalize acc ++ x.take k = al at *
            have t3 := cell_of_heap HD2.out.top 3
            simp at t3
            have t4 := (Keeps.alloc (fun _ => False) wr (.cells #[.string y.key, .string y.value, .bool y.gone] 31)).cell t3 (fun h => h)
            have HKX := hid hkx
            clear hR2 hN2 hy hal hk hkx
            go_wp2_with fail
            go_region_law ((refine step_append_row _ (by rfl) _ _ 32 (by rfl) 31 i0 _ 3 40 Tryz.underlying32 hi hz0 hz1 hz2 (by rfl) (.slice o2 al.length c2) al.length _ (by rfl) (HD2.out.row.kept ((Keeps.refl (fun _ => False) wr).al _).dr (fun _ _ h => h)) ⟨wr.heap.size, 0, none⟩ 1 1 [.string y.key, .string y.value, .bool y.gone] (by rfl) (by rfl) (news_arr wr #[.string y.key, .string y.value, .bool y.gone] _) (by simp [Value.oneCell']) (by have := HAL.out; unfold maxLen; omega) (by have := HAL.out; omega) ?_; intro v' w8 hown' hgrow _ hat; obtain ⟨g', cap', rfl⟩ := hown'.succ; have hp := HD2.out.push (x := y) (((Keeps.refl (fun _ => False) wr).al _).dr) hown' hgrow hat; have q3 := cell_of_heap hp.1 3; have p3 := frozen_of_heap hp.1 3; simp at q3; have HP := hid hp.2; have HTP := hid hp.1; have HGW := hid hgrow; have HAT := hid hat; clear hown' hgrow hat hp))
            all_goals
              go_wp2
              have r1' := HR2.out.kept (((Keeps.refl (fun _ => False) wr).al (.cells #[.string y.key, .string y.value, .bool y.gone] 31)).dr) (fun _ _ h => h)
              have r2' := r1'.kept (Keeps.grown HGW.out) (fun g hg e => HN2.out g e.symm hg)
              refine ⟨⟨k + 1, _, HKX.out, by go_num, by rw [HTK.out]; exact HP.out, r2'.kept (Keeps.setCell w8 ⟨xb, 3, none⟩ _) (fun g hg e => (r2'.typeIs hg).ne (e' := 34) (by decide) ((show g = xb from e) ▸ ⟨_, HTP.out⟩)), fun g hg e => ?_⟩, by simp only [intOf]; have := HKX.out; omega⟩
              rcases HAT.out with h9 | h9
              · exact HN2.out g (h9 ▸ hg) e
              · rw [hg] at h9
                have h8 := HR2.out.lt e
                simp at h9
                omega
          · have HD2 := hid hD2
            have hkn : ¬ ((k : Int) < x.length) := by omega
            have e : x.take k = x := List.take_of_length_le (by omega)
            rw [e] at HD2
            have HLN2 := hid (HLp.out.next HD.out.scan.1 HB.out)
            have HME : Hid (scM tx sb (.bool (decide (0 < x.length))) wr < scM tx sb (.bool true) wo) := by
              show _ < _
              rw [scM_ok HD.out.scan]
              exact scM_less HD2.out.scan (BlkS.short HD.out.scan.1 HB.out)
            clear hD2 hR2 hN2 e
            go_wp2
            exact ⟨⟨_, _, _, s', rfl, HD2.out, HLN2.out⟩, HME.out⟩
      · have hexit : more = true → ∃ j, s = .bad j := fun h => by
          rcases s with j | ⟨u, l'⟩
          · exact ⟨j, rfl⟩
          · exact absurd ⟨h, l', rfl⟩ hgo
        obtain ⟨at_, hat, hA⟩ := HD.out.scan.facts
        obtain ⟨-, -, d2, -, -⟩ := hA.facts
        obtain ⟨bd, hbd⟩ : ∃ bd, bd = badI tx s := ⟨_, rfl⟩
        rw [← hbd] at d2
        obtain ⟨m5, s5, e5⟩ : ∃ m s5, numS acc.length acc.length s = (m, s5) := ⟨_, _, rfl⟩
        have HEND := hid (coreS_end HKB.out HE2.out HE3.out HLp.out hexit e5)
        have HN5 : Hid (Calls Tryz.prog 25 #[.pointer (some ⟨sb, 0, none⟩), .int .i64 (acc.length : Nat), .int .i64 (acc.length : Nat)] wo (ScNumS sb tx wo (m5, s5))) := by
          have := scNum_all sb tx s acc.length acc.length wo HD.out.scan HTX2.out (by have := HFEW.out; omega) (by have := HFEW.out; omega)
          rw [e5] at this
          exact this
        have hcase : more = false ∨ (more = true ∧ ¬ (bd < 0)) := by
          cases more with
          | false => exact .inl rfl
          | true =>
            refine .inr ⟨rfl, fun h3 => ?_⟩
            rw [hbd, badI_lt] at h3
            exact hgo ⟨rfl, h3⟩
        have t3 := cell_of_heap HD.out.top 3
        simp at t3
        have HLEN : Hid (text.data.toList.length - 4 = tx.size) := by show text.size - 4 = _; have h1 := HN.out; have h2 := HXS.out; omega
        clear hexit hA hat hbd hgo e5
        rcases hcase with rfl | ⟨rfl, hcase⟩
        all_goals
          go_wp2_with fail
          refine HN5.out.mono ?_
          rintro e w7 ⟨rfl, hs7, k7⟩
          have HD7 := hid (HD.out.call k7 hs7)
          clear HN5 d2 t3 hs7 k7
          obtain ⟨a0, a1, a2, a3, b0, b1, b2, b3, q0, q1, q2, q3⟩ := HD7.out.res.facts
          obtain ⟨x0, x1, x2, x3, -, -, -, -, -, -, -, -⟩ := HD7.out.none_.facts
          rcases s5 with j | ⟨u, r⟩
          · have er : res = .bad (tx.size - j) := by rw [HR.out, HEND.out.1 j rfl]; unfold coreO; simp only; rw [HLEN.out]
            subst er
            obtain ⟨at5, -, hA5⟩ := HD7.out.scan.facts
            obtain ⟨-, -, b2', -, -⟩ := hA5.facts
            obtain ⟨q, hq⟩ : ∃ q, q = tx.size - j := ⟨_, rfl⟩
            have HQ : Hid (tx.size - j = q) := hq.symm
            have b2y : w7.cell? ⟨sb, 2, none⟩ = some (.int .i64 (q : Nat)) := by rw [hq]; exact b2'
            have hb0 : ¬ ((q : Int) < 0) := by omega
            have hb1 : (q : Int) ≥ 0 := by omega
            have dq : decide ((q : Int) < 0) = false := decide_eq_false hb0
            clear hA5 b2' hq HR HEND HLp hb0
            go_wp2_with fail
            go_quiet (fail)
            go_wp2_with fail
            have HD8 := hid (HD7.out.quiet ((Keeps.refl (fun _ => False) w7).drN nq))
            have b2z : (w7.drewN nq).cell? ⟨sb, 2, none⟩ = some (.int .i64 (q : Nat)) := b2y
            clear a0 a1 a2 a3 b0 b1 b2 b3 q0 q1 q2 q3 x0 x1 x2 x3 b2y
            generalize w7.drewN nq = w8 at *
            obtain ⟨a0, a1, a2, a3, b0, b1, b2, b3, q0, q1, q2, q3⟩ := HD8.out.res.facts
            obtain ⟨x0, x1, x2, x3, -, -, -, -, -, -, -, -⟩ := HD8.out.none_.facts
            go_region
            all_goals
              go_wp2
              refine bodyPost_ret (v := .tuple #[strZ, .int .i64 (q : Nat), .int .i64 6]) ?_ rfl ?_
              · unfold strZ
                rw [results_cell_two rfl]
                go_simp
              · exact ⟨by rw [HQ.out], HD8.out.keep.dr⟩
          · obtain ⟨c0', c1', c2', -, -⟩ := HD7.out.scan.2.facts
            have hrl := HD7.out.scan.1.len
            have d0 : decide ((-1 : Int) < 0) = true := by decide
            by_cases hr : r = []
            · subst hr
              have c1'' : w7.cell? ⟨sb, 1, none⟩ = some (.int .i64 (tx.size : Nat)) := c1'
              have da : decide ((tx.size : Int) < tx.size) = false := decide_eq_false (by omega)
              obtain ⟨X, hX, hXf, hXa, hXb, hXr⟩ := HEND.out.2 [] (by unfold endS; simp)
              have HXR : Hid (res = if judgeB kk a b acc = true ∧ streamL ⟨kk, a, b, acc.map RecB.rec_⟩ = text.data.toList then .ok X else .bad 0) := by
                show _ = _
                rw [HR.out, hX]
                unfold coreO judgeS
                simp only
                obtain ⟨xf, xa, xb', xr⟩ := X
                simp only at hXf hXa hXb hXr
                rw [hXr, recs_back, hXf, hXa, hXb]
              have HXE : Hid (X.full = kk ∧ X.a = a ∧ X.b = b ∧ acc = X.recs.map recB) := ⟨hXf, hXa, hXb, hXr⟩
              have HSM : Hid (∀ r ∈ acc, r.key.size ≤ maxLen ∧ r.value.size ≤ maxLen) := fun r hr => by
                rw [hXr] at hr
                obtain ⟨r', hr', rfl⟩ := List.mem_map.1 hr
                obtain ⟨h1, h2⟩ := coreR_small hX r' hr'
                have e1 : (recB r').key.size = r'.key.length := ofL_size _
                have e2 : (recB r').value.size = r'.value.length := ofL_size _
                unfold maxLen
                omega
              have t0 := cell_of_heap HD7.out.top 0
              have t1 := cell_of_heap HD7.out.top 1
              have t2 := cell_of_heap HD7.out.top 2
              have t3 := cell_of_heap HD7.out.top 3
              simp at t0 t1 t2 t3
              clear hX hXf hXa hXb hXr HR HEND HLp hrl c1'
              cases hj : judgeB kk a b acc with
              | false =>
                have er : res = .bad 0 := by rw [HXR.out, hj, if_neg (by simp)]
                subst er
                have HEB := hid (fun W (hW : Keeps (fun _ => False) w7 W) => refEncode_bad kk a b ob cb acc W (RecIn.ofRow (HD7.out.row.kept hW (fun _ _ h => h))) HSM.out hj)
                clear HXR hj HSM
                go_wp2_with fail
                go_quiet (fail)
                go_wp2_with fail
                refine (HEB.out _ ((Keeps.refl (fun _ => False) w7).drN nq)).mono ?_
                rintro e w8 ⟨rfl, k8⟩
                have HD8 := hid ((HD7.out.quiet ((Keeps.refl (fun _ => False) w7).drN nq)).quiet k8)
                clear a0 a1 a2 a3 b0 b1 b2 b3 q0 q1 q2 q3 x0 x1 x2 x3 HEB k8 t0 t1 t2 t3
                obtain ⟨a0, a1, a2, a3, b0, b1, b2, b3, q0, q1, q2, q3⟩ := HD8.out.res.facts
                obtain ⟨x0, x1, x2, x3, -, -, -, -, -, -, -, -⟩ := HD8.out.none_.facts
                go_wp2
                refine bodyPost_ret (v := .tuple #[strZ, .int .i64 0, .int .i64 6]) ?_ rfl ?_
                · unfold strZ
                  rw [results_cell_two rfl]
                  go_simp
                · exact ⟨rfl, HD8.out.keep⟩
              | true =>
                have HEG := hid (fun W (hW : Keeps (fun _ => False) w7 W) => refEncode_good kk a b ob cb acc W (RecIn.ofRow (HD7.out.row.kept hW (fun _ _ h => h))) hj)
                by_cases hq : streamL ⟨kk, a, b, acc.map RecB.rec_⟩ = text.data.toList
                · have er : res = .ok X := by rw [HXR.out, if_pos ⟨hj, hq⟩]
                  subst er
                  have HWQ : Hid (ofL (streamL ⟨kk, a, b, acc.map RecB.rec_⟩) = text) := by show _ = _; rw [hq, ofL_self]
                  clear HXR hj HSM hq
                  go_wp2_with fail
                  go_quiet (fail)
                  go_wp2_with fail
                  refine (HEG.out _ ((Keeps.refl (fun _ => False) w7).drN nq)).mono ?_
                  rintro e w8 ⟨e1, k8⟩
                  rw [HWQ.out] at e1
                  subst e1
                  have HD8 := hid ((HD7.out.quiet ((Keeps.refl (fun _ => False) w7).drN nq)).quiet k8)
                  clear a0 a1 a2 a3 b0 b1 b2 b3 q0 q1 q2 q3 x0 x1 x2 x3 HEG k8 t0 t1 t2 t3
                  obtain ⟨a0, a1, a2, a3, b0, b1, b2, b3, -, -, -, -⟩ := HD8.out.res.facts
                  have t0 := cell_of_heap HD8.out.top 0
                  have t1 := cell_of_heap HD8.out.top 1
                  have t2 := cell_of_heap HD8.out.top 2
                  have t3 := cell_of_heap HD8.out.top 3
                  simp at t0 t1 t2 t3
                  generalize hlen : acc.length = len at *
                  go_wp2
                  refine bodyPost_ret (v := .tuple #[.agg #[.bool kk, .int .i64 (a : Nat), .int .i64 (b : Nat), .slice ob len cb], .int .i64 0, .int .i64 0]) ?_ rfl ?_
                  · rw [results_cell_two rfl]
                    go_simp
                  · obtain ⟨z1, z2, z3, z4⟩ := HXE.out
                    refine ⟨⟨ob, cb, ?_, ?_, fun g hg => HD8.out.own g ((own_len ob _ _ cb).trans hg)⟩, HD8.out.keep.trans (four_set w8 w.heap.size _ _ _ _) (fun k hk e => by have e' : k = w.heap.size := e; omega)⟩
                    · rw [z1, z2, z3, ← hlen, z4, List.length_map]
                    · have h9 := HD8.out.row
                      rw [hlen] at h9
                      have h8 : X.recs.length = len := by rw [← hlen, z4, List.length_map]
                      rw [h8, ← z4]
                      exact h9.kept (four_set w8 w.heap.size _ _ _ _) (fun i hi e => (h9.typeIs hi).ne (e' := 34) (by decide) ⟨_, (show i = w.heap.size from e) ▸ HD8.out.res⟩)
                · have er : res = .bad 0 := by rw [HXR.out, if_neg (fun h => hq h.2)]
                  subst er
                  have hne : ((ofL (streamL ⟨kk, a, b, acc.map RecB.rec_⟩)).toList == text.toList) = false := (Lib.bytes_beq_false_iff _ _).2 (fun e => hq (by have := congrArg (fun x : ByteArray => x.data.toList) e; exact this))
                  obtain ⟨ag, hag⟩ : ∃ ag, ag = ofL (streamL ⟨kk, a, b, acc.map RecB.rec_⟩) := ⟨_, rfl⟩
                  rw [← hag] at hne HEG
                  clear HXR hj HSM hq hag
                  go_wp2_with fail
                  go_quiet (fail)
                  go_wp2_with fail
                  refine (HEG.out _ ((Keeps.refl (fun _ => False) w7).drN nq)).mono ?_
                  rintro e w8 ⟨rfl, k8⟩
                  have HD8 := hid ((HD7.out.quiet ((Keeps.refl (fun _ => False) w7).drN nq)).quiet k8)
                  clear a0 a1 a2 a3 b0 b1 b2 b3 q0 q1 q2 q3 x0 x1 x2 x3 HEG k8 t0 t1 t2 t3
                  obtain ⟨a0, a1, a2, a3, b0, b1, b2, b3, q0, q1, q2, q3⟩ := HD8.out.res.facts
                  obtain ⟨x0, x1, x2, x3, -, -, -, -, -, -, -, -⟩ := HD8.out.none_.facts
                  go_wp2
                  refine bodyPost_ret (v := .tuple #[strZ, .int .i64 0, .int .i64 6]) ?_ rfl ?_
                  · unfold strZ
                    rw [results_cell_two rfl]
                    go_simp
                  · exact ⟨rfl, HD8.out.keep⟩
            · have hpos : 0 < r.length := List.length_pos_iff.2 hr
              have er : res = .bad (tx.size - r.length) := by
                rw [HR.out, HEND.out.1 r.length (by unfold endS; simp [hr])]; unfold coreO; simp only; rw [HLEN.out]
              subst er
              obtain ⟨q, hq⟩ : ∃ q, q = tx.size - r.length := ⟨_, rfl⟩
              rw [← hq] at c1' ⊢
              have HQ : Hid (tx.size - r.length = q) := hq.symm
              have HWR := hid (fun W (hW : Keeps (fun _ => False) w7 W) => wrong_good sb tx q q W (by have h9 := HD7.out.scan.2; rw [← hq] at h9; exact h9.kept hW (fun h => h)))
              have da : decide ((q : Int) < tx.size) = true := decide_eq_true (by omega)
              have dn : decide (q < tx.size) = true := decide_eq_true (by omega)
              have HQL : Hid (q ≤ tx.size) := by show _ ≤ _; omega
              have hb1 : (q : Int) ≥ 0 := by omega
              have dq : decide ((q : Int) < 0) = false := decide_eq_false (by omega)
              have hb0 : ¬ ((q : Int) < 0) := by omega
              clear HR HEND HLp hr hpos hq hrl
              go_wp2_with fail
              go_quiet (fail)
              go_wp2_with fail
              have HK7 : Hid (Keeps (fun _ => False) w7 (w7.drewN nq)) := (Keeps.refl (fun _ => False) w7).drN nq
              generalize w7.drewN nq = w9 at *
              refine (HWR.out _ HK7.out).mono ?_
              rintro e w8 ⟨rfl, h8, k8⟩
              have HD8 := hid ((HD7.out.quiet HK7.out).call (s' := .bad (tx.size - q)) k8 ⟨q, HQL.out, by rw [show tx.size - (tx.size - q) = q by have := HQL.out; omega]; exact h8⟩)
              obtain ⟨-, -, y2, -, -⟩ := h8.facts
              clear a0 a1 a2 a3 b0 b1 b2 b3 q0 q1 q2 q3 x0 x1 x2 x3 HWR h8 k8
              obtain ⟨a0, a1, a2, a3, b0, b1, b2, b3, q0, q1, q2, q3⟩ := HD8.out.res.facts
              obtain ⟨x0, x1, x2, x3, -, -, -, -, -, -, -, -⟩ := HD8.out.none_.facts
              go_wp2_with fail
              go_region
              all_goals
                go_wp2
                refine bodyPost_ret (v := .tuple #[strZ, .int .i64 (q : Nat), .int .i64 6]) ?_ rfl ?_
                · unfold strZ
                  rw [results_cell_two rfl]
                  go_simp
                · exact ⟨by rw [HQ.out], HD8.out.keep.dr⟩

end Go.Proofs.YtkpaiaddikpdoaaGreatDoor
