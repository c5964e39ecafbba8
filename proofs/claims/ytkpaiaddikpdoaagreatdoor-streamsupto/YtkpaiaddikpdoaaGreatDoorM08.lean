import Derived.Test.YtkpaiaddikpdoaaGreatDoorM07

/- annalsref: Pieces, walked. -/
namespace Go.Proofs.YtkpaiaddikpdoaaGreatDoor
open Go.RowKit Go.Shelf

attribute [local go_sem] Oper.semAt_some

theorem Made.pushes {α : Type} {e : TypeId} {size : Nat} {f : α → List Value} {w W W1 w' : World} {v v' : Value} {l m : List α} (h : Made e size f w W v l) (hW : Keeps (fun _ => False) W W1) (hr : Row w' e size v' (l.length + m.length) (l.flatMap f ++ m.flatMap f)) (hg : W1.grownBy w' v.ownBlock)
    (ho : v'.ownBlock = v.ownBlock ∨ v'.ownBlock = some W1.heap.size) : Made e size f w w' v' (l ++ m) := by
  have hz := h.keep.size
  have hz1 := hW.size
  refine ⟨by simpa using hr, fun g hgv => ?_, (h.keep.tr hW (fun _ h => h)).trans (Keeps.grown hg) (fun k hk e => ?_)⟩
  · rcases ho with e1 | e1
    · exact h.own g (by rw [← e1]; exact hgv)
    · rw [hgv] at e1
      simp at e1
      omega
  · have := h.own k e.symm
    omega

theorem txts_len (l : List ByteArray) : (l.flatMap txtCells).length = l.length := by
  induction l with
  | nil => rfl
  | cons x l ih => simp [txtCells, ih]
theorem txts_one (l : List ByteArray) : ∀ u ∈ l.flatMap txtCells, u.oneCell' = true := by
  intro u hu
  obtain ⟨x, -, hx⟩ := List.mem_flatMap.1 hu
  rw [List.mem_singleton.1 hx]
  rfl

/-- the last piece -/
theorem rest_text (full : Bool) (a b : Nat) (l : List RecB) : ofL (numL 0) ++ ofL (numL l.length) ++ ofL (checkL (catT (ofL (headL full a b) :: blocksT l ((l.length + 3) / 4)) ++ (ofL (numL 0) ++ ofL (numL l.length))).data.toList) = ofL (tailL (ovL 0 (headL full a b ++ blocksL (l.map RecB.rec_))) l.length) := by
  rw [catT_cons, blocksT_cat, ofL_append (numL 0), ofL_append (headL full a b), ofL_append (headL full a b ++ _), ofL_list, ofL_append]
  unfold tailL checkL
  rw [ovL_append]

theorem piece_small {full : Bool} {a b : Nat} {l : List RecB} (ha : a ≤ 1000000000) (hb : b ≤ 1000000000) (hs : Small l) : ∀ t ∈ ofL (headL full a b) :: blocksT l ((l.length + 3) / 4), t.size ≤ 10000 := by
  intro t ht
  rcases List.mem_cons.1 ht with rfl | ht
  · have n1 := numL_len 8 a (by omega)
    have n2 := numL_len 8 b (by omega)
    have k1 : (kindL full).length = 4 := by cases full <;> rfl
    rw [ofL_size]
    unfold headL
    simp only [List.length_append]
    omega
  · unfold blocksT at ht
    obtain ⟨x, -, rfl⟩ := List.mem_map.1 ht
    unfold blockT
    rw [ofL_size]
    exact block_len (chunk_small hs x) (chunk_four l x)

set_option maxRecDepth 100000 in
set_option maxHeartbeats 4000000 in
theorem refPieces_any (full : Bool) (a b : Nat) (oa : Option Addr) (cap : Nat) (l : List RecB) (w : World) (hr : RecIn w oa l) (hl : l.length ≤ 1000) (hs : Small l) (ha : a ≤ 1000000000) (hb : b ≤ 1000000000) :
    Calls Tryz.prog 19 #[.agg #[.bool full, .int .i64 (a : Nat), .int .i64 (b : Nat), .slice oa l.length cap]] w fun e w' => ∃ v', e = .returned v' ∧ Made 9 1 txtCells w w' v' (piecesT full a b l) := by
  obtain ⟨i0, hi, hz0, hz1, hz2⟩ := info_parts Tryz.infoTxt
  have HR := hid hr
  have HL := hid hl
  have HSM := hid hs
  have HB : Hid (a ≤ 1000000000 ∧ b ≤ 1000000000) := ⟨ha, hb⟩
  have hlI : (l.length : Int) ≤ 1000 := by omega
  have k0 := Keeps.alloc (fun _ => False) w (.cells #[.bool full, .int .i64 (a : Nat), .int .i64 (b : Nat), .slice oa l.length cap] 34)
  have HX := hid (heap_new w (.cells #[.bool full, .int .i64 (a : Nat), .int .i64 (b : Nat), .slice oa l.length cap] 34))
  have HK0 := hid k0
  have HHD := hid (fun W => refHead_any full a b (.slice oa l.length cap) W ha hb ⟨_, _, _, rfl⟩)
  clear hr hl hs ha hb k0
  go_enter Tryz.func19, Tryz.ntmps19
  go_wp2_with fail
  refine (HHD.out _).mono ?_
  rintro e w1 ⟨rfl, k1⟩
  clear HHD
  obtain ⟨HD, hHD⟩ : ∃ HD, HD = ofL (headL full a b) := ⟨_, rfl⟩
  rw [← hHD]
  have HHD := hid hHD
  have hx1 := (k1.block _ (Array.getElem?_eq_some_iff.1 HX.out).1 (fun h => h)).trans HX.out
  have HX1 := hid hx1
  have HK1 := hid (HK0.out.tr k1 (fun _ h => h))
  clear hHD hx1 k1
  obtain ⟨w2, hw2⟩ : ∃ w2, w2 = w1.alloc (.cells #[.string HD] 9) := ⟨_, rfl⟩
  have k2 : Keeps (fun _ => False) w1 w2 := by rw [hw2]; exact (Keeps.refl _ _).al _
  have hx2 := (k2.block _ (Array.getElem?_eq_some_iff.1 HX1.out).1 (fun h => h)).trans HX1.out
  have x3 := cell_of_heap hx2 3
  simp at x3
  rw [hw2] at x3
  have hrow2 : Row w2 9 1 (.slice (some ⟨w1.heap.size, 0, none⟩) 1 1) 1 [.string HD] := ⟨rfl, .inr ⟨w1.heap.size, 1, #[.string HD], rfl, by rw [hw2]; exact heap_new w1 _, Nat.le_refl _, by unfold maxLen; omega, by simp, rfl⟩⟩
  have HM2 : Hid (Made 9 1 txtCells w w2 (.slice (some ⟨w1.heap.size, 0, none⟩) [HD].length 1) [HD]) := ⟨hrow2, fun g hg => by cases hg; exact HK1.out.size, HK1.out.tr k2 (fun _ h => h)⟩
  have HX2 := hid hx2
  have HW2 := hid hw2
  have HBL := hid (refBlocks_any oa cap l w2 ((HR.out.kept (HK1.out.tr k2 (fun _ h => h)))) HL.out HSM.out)
  clear hx2 k2 hrow2 hw2
  go_wp2_with fail
  rw [← HW2.out]
  refine HBL.out.mono ?_
  rintro e w3 ⟨v3, rfl, hM3⟩
  obtain ⟨BS, hBS⟩ : ∃ BS, BS = blocksT l ((l.length + 3) / 4) := ⟨_, rfl⟩
  rw [← hBS] at hM3
  have hbn : BS.length ≤ 251 := by rw [hBS, blocksT_len]; have := HL.out; omega
  have HBN := hid hbn
  obtain ⟨o3, c3, rfl, -, sa⟩ := hM3.row.form
  have HBSE : Hid (BS = blocksT l ((l.length + 3) / 4)) := hBS
  have HM3 := hid hM3
  have HXK : Hid (∀ W, Keeps (fun _ => False) w3 W → W.cell? ⟨w.heap.size, 3, none⟩ = some (.slice oa l.length cap)) := fun W k => by
    have := cell_of_heap ((k.block _ (Nat.lt_of_lt_of_le (Array.getElem?_eq_some_iff.1 HX2.out).1 hM3.keep.size) (fun h => h)).trans ((hM3.keep.block _ (Array.getElem?_eq_some_iff.1 HX2.out).1 (fun h => h)).trans HX2.out)) 3
    simpa using this
  have HX3 := hid ((hM3.keep.block _ (Array.getElem?_eq_some_iff.1 HX2.out).1 (fun h => h)).trans HX2.out)
  obtain ⟨L, hL⟩ : ∃ L, L = HD :: BS := ⟨_, rfl⟩
  have HM2K := hid (HM2.out.kept hM3.keep)
  clear hBS hM3 x3
  cases o3 with
  | none =>
    have hb0 : BS.length = 0 ∧ c3 = 0 := by
      rcases HM3.out.row.2 with ⟨e, e'⟩ | ⟨g, c', cur, e, -⟩
      · injection e with e1 e2 e3
        exact ⟨e', e3⟩
      · injection e with e1 _ _
        cases e1
    obtain ⟨hb0, rfl⟩ := hb0
    have hbs : BS = [] := List.eq_nil_of_length_eq_zero hb0
    have hl1 : L.length = 1 := by rw [hL, hbs]; rfl
    have happ : (Builtin.append_ #[23, 23] 23 #[.slice (some ⟨w1.heap.size, 0, none⟩) 1 1, .slice none 0 0]).run Tryz.prog w3 = .ok (.slice (some ⟨w1.heap.size, 0, none⟩) L.length 1) w3 := by rw [hl1]; exact run_append_nothing w3 (some ⟨w1.heap.size, 0, none⟩) 1 1 (Nat.le_refl _)
    have hML : Made 9 1 txtCells w w3 (.slice (some ⟨w1.heap.size, 0, none⟩) L.length 1) L := by rw [hL, hbs]; exact HM2K.out
    rw [hb0]
    have HL1 := hid hl1
    go_wp2_with fail
    have HML := hid hML
    have hLlen : L.length ≤ 300 := by rw [hL, List.length_cons]; have := HBN.out; omega
    have HSZ : Hid (∀ k, k ≤ L.length → (catT (L.take k)).size ≤ 3000000) := fun k hk => by
      have h1 := catT_size_le (l := L) 10000 (by rw [hL, HHD.out, HBSE.out]; exact piece_small HB.out.1 HB.out.2 HSM.out) k
      have : k * 10000 ≤ 300 * 10000 := Nat.mul_le_mul_right _ (by omega)
      omega
    have HSE : Hid (∀ t ∈ L, t.size ≤ 10000) := by show ∀ t ∈ L, _; rw [hL, HHD.out, HBSE.out]; exact piece_small HB.out.1 HB.out.2 HSM.out
    have hLI : (L.length : Int) ≤ 300 := by omega
    have HLE := hid hL
    clear hML hL hLlen
    go_loopw [4, 5] (fun sv i wr => ∃ k : Nat, k ≤ L.length ∧ sv = .string (catT (L.take k)) ∧ i = .int .i64 k ∧ Keeps (fun _ => False) w3 wr) (fun _ i _ => L.length - (intOf i).toNat)
    case atStart => exact ⟨0, Nat.zero_le _, rfl, rfl, Keeps.refl _ _⟩
    case round =>
      obtain ⟨k, hk, rfl, rfl, kr⟩ := hrel
      have HKR := hid kr
      have hkI : (k : Int) ≤ L.length := by omega
      clear kr
      by_cases hkl : k < L.length
      · obtain ⟨t, ht⟩ : ∃ t, L[k]? = some t := ⟨L[k], List.getElem?_eq_getElem hkl⟩
        have c0 := txt_at HML.out.row HKR.out ht
        have s1 := HSZ.out k hk
        have s2 := HSE.out t (List.mem_of_getElem? ht)
        have HNX := hid (catT_take ht)
        have hklI : (k : Int) < L.length := by omega
        generalize catT (L.take k) = ct at *
        have hadd : ∀ W, (Op.stringOp .add ct t).run Tryz.prog W = .ok (.string (ct ++ t)) W := fun W => run_string_add_sum W _ _ (by omega)
        have HKL := hid hkl
        clear ht s1 s2 hkl hk
        go_wp2
        exact ⟨⟨k + 1, HKL.out, by rw [HNX.out], by go_num, HKR.out⟩, by simp only [intOf]; have := HKL.out; omega⟩
      · have hkn : ¬ ((k : Int) < L.length) := by omega
        have e : L.take k = L := List.take_of_length_le (by omega)
        have s1 := HSZ.out k hk
        rw [e] at s1 ⊢
        have HN0 : Hid (∀ W, Calls Tryz.prog 44 #[.int .i64 0] W fun e w' => e = .returned (.string (ofL (numL 0))) ∧ Keeps (fun _ => False) W w') := fun W => refNumber_any 1 0 W (by omega) (by omega)
        have HNL := hid (fun W => refNumber_any 1 l.length W (by have := HL.out; omega) (by have := HL.out; omega))
        have s2 : (ofL (numL 0)).size ≤ 2 := by rw [ofL_size]; exact numL_len 1 _ (by omega)
        have s3 : (ofL (numL l.length)).size ≤ 2 := by rw [ofL_size]; exact numL_len 1 _ (by have := HL.out; omega)
        have HCK := hid (fun W => refCheck_any (catT L ++ (ofL (numL 0) ++ ofL (numL l.length))) W (by simp only [ByteArray.size_append]; unfold maxLen; omega))
        have s4 : (ofL (checkL (catT L ++ (ofL (numL 0) ++ ofL (numL l.length))).data.toList)).size = 4 := by rw [ofL_size]; rfl
        have HRT : Hid (ofL (numL 0) ++ ofL (numL l.length) ++ ofL (checkL (catT L ++ (ofL (numL 0) ++ ofL (numL l.length))).data.toList) = ofL (tailL (ovL 0 (headL full a b ++ blocksL (l.map RecB.rec_))) l.length)) := by
          show _ = _
          rw [HLE.out, HHD.out, HBSE.out]
          exact rest_text full a b l
        generalize ofL (checkL (catT L ++ (ofL (numL 0) ++ ofL (numL l.length))).data.toList) = CK at *
        generalize ofL (numL 0) = N0 at *
        generalize ofL (numL l.length) = NL at *
        generalize hct : catT L = ct at *
        have hr1 : ∀ W, (Op.stringOp .add N0 NL).run Tryz.prog W = .ok (.string (N0 ++ NL)) W := fun W => run_string_add_sum W _ _ (by omega)
        have hr2 : ∀ W, (Op.stringOp .add ct (N0 ++ NL)).run Tryz.prog W = .ok (.string (ct ++ (N0 ++ NL))) W := fun W => run_string_add_sum W _ _ (by simp only [ByteArray.size_append]; omega)
        have hr3 : ∀ W, (Op.stringOp .add (N0 ++ NL) CK).run Tryz.prog W = .ok (.string (N0 ++ NL ++ CK)) W := fun W => run_string_add_sum W _ _ (by simp only [ByteArray.size_append]; omega)
        have xc := HXK.out wr (HKR.out)
        have HLB : Hid (L.length ≤ 300) := by show _ ≤ _; omega
        clear e s1 s2 s3 s4 hkl hk HSZ HSE hct
        go_wp2_with fail
        go_region_held3 (fun W => W.cell? ⟨w.heap.size, 3, none⟩ = some (.slice oa l.length cap)) (go_keep) (first
          | (go_at_call 44; have hh := HK1n.out; clear hh; refine (HNL.out _).mono ?_; rintro e w6 ⟨rfl, k6⟩; have HK6 := hid (HK1n.out.tr k6 (fun _ h => h)); have xe := HXK.out _ (HK6.out); clear k6)
          | (go_at_call 44; refine (HN0.out _).mono ?_; rintro e w5 ⟨rfl, k5⟩; have HK1n := hid (HKR.out.dr.tr k5 (fun _ h => h)); have xd := HXK.out _ (HK1n.out); clear k5))
        clear xc xd xe
        go_wp2_with fail
        refine (HCK.out _).mono ?_
        rintro e w7 ⟨rfl, k7⟩
        have HM7 := hid ((HML.out.kept HK6.out).kept k7)
        clear k7 HCK
        go_wp2_with (first | (at_builtin; go_must (refine wpList_append_row _ rfl _ _ 23 rfl 9 i0 _ 1 16 Tryz.underlying23 hi hz0 hz1 hz2 rfl (.slice (some ⟨w1.heap.size, 0, none⟩) 1 1) 1 (L.flatMap txtCells) rfl (by have hq := HM7.out.row.kept (Keeps.alloc (fun _ => False) w7 (.cells #[.string (N0 ++ NL ++ CK)] 9)) (fun _ _ h => h); rw [HL1.out] at hq; exact hq) ⟨w7.heap.size, 0, none⟩ 1 1 [.string (N0 ++ NL ++ CK)] rfl rfl (news_arr _ #[.string (N0 ++ NL ++ CK)] _) (by simp [Value.oneCell']) (by unfold maxLen; omega) (by omega) ?_; intro v' w8 hown' hgrow _ hat; obtain ⟨g', cap', rfl⟩ := hown'.succ; have HN := hid (HM7.out.push (a := N0 ++ NL ++ CK) (Keeps.alloc (fun _ => False) _ _) (by rw [HL1.out]; exact hown') hgrow hat); clear hown' hgrow hat)) | fail)
        go_ret
        refine ⟨_, rfl, ?_⟩
        have epi : piecesT full a b l = L ++ [N0 ++ NL ++ CK] := by unfold piecesT; rw [HRT.out, HLE.out, HHD.out, HBSE.out]
        rw [epi]
        exact HN.out.slice (by simp)
  | some ad =>
    obtain ⟨g3, rfl⟩ : ∃ g, ad = ⟨g, 0, none⟩ := by
      rcases HM3.out.row.2 with ⟨e, e'⟩ | ⟨g, c', cur, e, -⟩
      · injection e with e1 _ _
        cases e1
      · injection e with e1 _ _
        exact ⟨g, by injection e1⟩
    have HNW : Hid (∀ j u, (BS.flatMap txtCells)[j]? = some u → w3.cell? (Addr.add ⟨g3, 0, none⟩ j) = some u) := fun j u hj => by
      rw [Addr.add_lit, Nat.zero_add]
      have hj' : j < BS.length := by
        have := (List.getElem?_eq_some_iff.1 hj).1
        rw [txts_len] at this
        exact this
      rw [HM3.out.row.cellAt j (by omega)]
      exact hj
    go_wp2_with (first | (at_builtin; go_must (refine wpList_append_row _ rfl _ _ 23 rfl 9 i0 _ 1 16 Tryz.underlying23 hi hz0 hz1 hz2 rfl (.slice (some ⟨w1.heap.size, 0, none⟩) 1 1) 1 _ rfl HM2K.out.row ⟨g3, 0, none⟩ BS.length c3 (BS.flatMap txtCells) rfl (by rw [txts_len]; omega) HNW.out (txts_one BS) (by have := HBN.out; unfold maxLen; omega) (by have := HBN.out; omega) ?_; intro v4 w4 hown4 hgrow4 _ hat4; obtain ⟨g4, cp4, rfl⟩ := Row.succ (n := BS.length) (by rw [Nat.add_comm] at hown4; exact hown4); have HM4 := hid (HM2K.out.pushes (m := BS) (Keeps.refl _ _) hown4 hgrow4 hat4); have hx4 := ((Keeps.grown hgrow4).block w.heap.size (Array.getElem?_eq_some_iff.1 HX3.out).1 (fun e => by have e' : some w.heap.size = some w1.heap.size := e; have h9 := (Array.getElem?_eq_some_iff.1 HX1.out).1; simp at e'; omega)).trans HX3.out; have HX4 := hid hx4; clear hown4 hgrow4 hat4 hx4)) | fail)
    have HXK4 : Hid (∀ W, Keeps (fun _ => False) w4 W → W.cell? ⟨w.heap.size, 3, none⟩ = some (.slice oa l.length cap)) := fun W k => by
      have := cell_of_heap ((k.block _ (Array.getElem?_eq_some_iff.1 HX4.out).1 (fun h => h)).trans HX4.out) 3
      simpa using this
    have hll : BS.length + 1 = L.length := by rw [hL, List.length_cons]
    have hML : Made 9 1 txtCells w w4 (.slice (some ⟨g4, 0, none⟩) L.length cp4) L := by
      have h9 := HM4.out.slice (v' := .slice (some ⟨g4, 0, none⟩) L.length cp4) (by rw [← hll])
      have e2 : [HD] ++ BS = L := hL.symm
      rw [e2] at h9
      exact h9
    rw [hll]
    clear hll
    have HML := hid hML
    have hLlen : L.length ≤ 300 := by rw [hL, List.length_cons]; have := HBN.out; omega
    have HSZ : Hid (∀ k, k ≤ L.length → (catT (L.take k)).size ≤ 3000000) := fun k hk => by
      have h1 := catT_size_le (l := L) 10000 (by rw [hL, HHD.out, HBSE.out]; exact piece_small HB.out.1 HB.out.2 HSM.out) k
      have : k * 10000 ≤ 300 * 10000 := Nat.mul_le_mul_right _ (by omega)
      omega
    have HSE : Hid (∀ t ∈ L, t.size ≤ 10000) := by show ∀ t ∈ L, _; rw [hL, HHD.out, HBSE.out]; exact piece_small HB.out.1 HB.out.2 HSM.out
    have hLI : (L.length : Int) ≤ 300 := by omega
    have HLE := hid hL
    clear hML hL hLlen
    go_loopw [4, 5] (fun sv i wr => ∃ k : Nat, k ≤ L.length ∧ sv = .string (catT (L.take k)) ∧ i = .int .i64 k ∧ Keeps (fun _ => False) w4 wr) (fun _ i _ => L.length - (intOf i).toNat)
    case atStart => exact ⟨0, Nat.zero_le _, rfl, rfl, Keeps.refl _ _⟩
    case round =>
      obtain ⟨k, hk, rfl, rfl, kr⟩ := hrel
      have HKR := hid kr
      have hkI : (k : Int) ≤ L.length := by omega
      clear kr
      by_cases hkl : k < L.length
      · obtain ⟨t, ht⟩ : ∃ t, L[k]? = some t := ⟨L[k], List.getElem?_eq_getElem hkl⟩
        have c0 := txt_at HML.out.row HKR.out ht
        have s1 := HSZ.out k hk
        have s2 := HSE.out t (List.mem_of_getElem? ht)
        have HNX := hid (catT_take ht)
        have hklI : (k : Int) < L.length := by omega
        generalize catT (L.take k) = ct at *
        have hadd : ∀ W, (Op.stringOp .add ct t).run Tryz.prog W = .ok (.string (ct ++ t)) W := fun W => run_string_add_sum W _ _ (by omega)
        have HKL := hid hkl
        clear ht s1 s2 hkl hk
        go_wp2
        exact ⟨⟨k + 1, HKL.out, by rw [HNX.out], by go_num, HKR.out⟩, by simp only [intOf]; have := HKL.out; omega⟩
      · have hkn : ¬ ((k : Int) < L.length) := by omega
        have e : L.take k = L := List.take_of_length_le (by omega)
        have s1 := HSZ.out k hk
        rw [e] at s1 ⊢
        have HN0 : Hid (∀ W, Calls Tryz.prog 44 #[.int .i64 0] W fun e w' => e = .returned (.string (ofL (numL 0))) ∧ Keeps (fun _ => False) W w') := fun W => refNumber_any 1 0 W (by omega) (by omega)
        have HNL := hid (fun W => refNumber_any 1 l.length W (by have := HL.out; omega) (by have := HL.out; omega))
        have s2 : (ofL (numL 0)).size ≤ 2 := by rw [ofL_size]; exact numL_len 1 _ (by omega)
        have s3 : (ofL (numL l.length)).size ≤ 2 := by rw [ofL_size]; exact numL_len 1 _ (by have := HL.out; omega)
        have HCK := hid (fun W => refCheck_any (catT L ++ (ofL (numL 0) ++ ofL (numL l.length))) W (by simp only [ByteArray.size_append]; unfold maxLen; omega))
        have s4 : (ofL (checkL (catT L ++ (ofL (numL 0) ++ ofL (numL l.length))).data.toList)).size = 4 := by rw [ofL_size]; rfl
        have HRT : Hid (ofL (numL 0) ++ ofL (numL l.length) ++ ofL (checkL (catT L ++ (ofL (numL 0) ++ ofL (numL l.length))).data.toList) = ofL (tailL (ovL 0 (headL full a b ++ blocksL (l.map RecB.rec_))) l.length)) := by
          show _ = _
          rw [HLE.out, HHD.out, HBSE.out]
          exact rest_text full a b l
        generalize ofL (checkL (catT L ++ (ofL (numL 0) ++ ofL (numL l.length))).data.toList) = CK at *
        generalize ofL (numL 0) = N0 at *
        generalize ofL (numL l.length) = NL at *
        generalize hct : catT L = ct at *
        have hr1 : ∀ W, (Op.stringOp .add N0 NL).run Tryz.prog W = .ok (.string (N0 ++ NL)) W := fun W => run_string_add_sum W _ _ (by omega)
        have hr2 : ∀ W, (Op.stringOp .add ct (N0 ++ NL)).run Tryz.prog W = .ok (.string (ct ++ (N0 ++ NL))) W := fun W => run_string_add_sum W _ _ (by simp only [ByteArray.size_append]; omega)
        have hr3 : ∀ W, (Op.stringOp .add (N0 ++ NL) CK).run Tryz.prog W = .ok (.string (N0 ++ NL ++ CK)) W := fun W => run_string_add_sum W _ _ (by simp only [ByteArray.size_append]; omega)
        have xc := HXK4.out wr HKR.out
        have HLB : Hid (L.length ≤ 300) := by show _ ≤ _; omega
        clear e s1 s2 s3 s4 hkl hk HSZ HSE hct
        go_wp2_with fail
        go_region_held3 (fun W => W.cell? ⟨w.heap.size, 3, none⟩ = some (.slice oa l.length cap)) (go_keep) (first
          | (go_at_call 44; have hh := HK1n.out; clear hh; refine (HNL.out _).mono ?_; rintro e w6 ⟨rfl, k6⟩; have HK6 := hid (HK1n.out.tr k6 (fun _ h => h)); have xe := HXK4.out _ HK6.out; clear k6)
          | (go_at_call 44; refine (HN0.out _).mono ?_; rintro e w5 ⟨rfl, k5⟩; have HK1n := hid (HKR.out.dr.tr k5 (fun _ h => h)); have xd := HXK4.out _ HK1n.out; clear k5))
        clear xc xd xe
        go_wp2_with fail
        refine (HCK.out _).mono ?_
        rintro e w7 ⟨rfl, k7⟩
        have HM7 := hid ((HML.out.kept HK6.out).kept k7)
        clear k7 HCK
        go_wp2_with (first | (at_builtin; go_must (refine wpList_append_row _ rfl _ _ 23 rfl 9 i0 _ 1 16 Tryz.underlying23 hi hz0 hz1 hz2 rfl (.slice (some ⟨g4, 0, none⟩) L.length cp4) L.length _ rfl (HM7.out.row.kept (Keeps.alloc (fun _ => False) _ _) (fun _ _ h => h)) ⟨w7.heap.size, 0, none⟩ 1 1 [.string (N0 ++ NL ++ CK)] rfl rfl (news_arr _ #[.string (N0 ++ NL ++ CK)] _) (by simp [Value.oneCell']) (by have := HLB.out; unfold maxLen; omega) (by have := HLB.out; omega) ?_; intro v' w8 hown' hgrow _ hat; obtain ⟨g', cap', rfl⟩ := hown'.succ; have HN := hid (HM7.out.push (a := N0 ++ NL ++ CK) (Keeps.alloc (fun _ => False) _ _) hown' hgrow hat); clear hown' hgrow hat)) | fail)
        go_ret
        refine ⟨_, rfl, ?_⟩
        have epi : piecesT full a b l = L ++ [N0 ++ NL ++ CK] := by unfold piecesT; rw [HRT.out, HLE.out, HHD.out, HBSE.out]
        rw [epi]
        exact HN.out.slice (by simp)

end Go.Proofs.YtkpaiaddikpdoaaGreatDoor
