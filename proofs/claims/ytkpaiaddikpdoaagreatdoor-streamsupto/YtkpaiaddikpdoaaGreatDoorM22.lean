import Derived.Test.YtkpaiaddikpdoaaGreatDoorM21

/- annalsref.Merge, walked. -/

namespace Go.Proofs.YtkpaiaddikpdoaaGreatDoor

open Go.RowKit Go.Shelf

attribute [local go_sem] Oper.semAt_some

theorem sv_cells {w : World} {g cap : Nat} {sv : List SV} (h : Row w 34 4 (.slice (some ⟨g, 0, none⟩) sv.length cap) sv.length (sv.flatMap SV.cells)) {k : Nat} {p : SV} (hp : sv[k]? = some p) :
    w.cell? ⟨g, k * 4, none⟩ = some (.bool p.s.full) ∧ w.cell? ⟨g, k * 4 + 1, none⟩ = some (.int .i64 (p.s.a : Nat)) ∧ w.cell? ⟨g, k * 4 + 2, none⟩ = some (.int .i64 (p.s.b : Nat)) ∧ w.cell? ⟨g, k * 4 + 3, none⟩ = some (.slice p.o p.s.recs.length p.cp) := by
  obtain ⟨hk, rfl⟩ := List.getElem?_eq_some_iff.1 hp
  exact ⟨Row.elem SV.len h k hk 0 (by omega), Row.elem SV.len h k hk 1 (by omega), Row.elem SV.len h k hk 2 (by omega), Row.elem SV.len h k hk 3 (by omega)⟩

theorem fold_placed_len : ∀ (rs L : List RecB), (rs.foldl placedL L).length ≤ L.length + rs.length
  | [], L => by simp
  | r :: rs, L => by
    have h1 := fold_placed_len rs (placedL L r)
    have h2 := placed_len L r
    rw [List.foldl_cons, List.length_cons]
    omega

set_option maxRecDepth 100000 in
set_option maxHeartbeats 4000000 in
theorem refMerge_any (oa : Option Addr) (cap : Nat) (ts : List ByteArray) (w : World) (hT : TxtIn w oa ts) (hn : ts.length ≤ 1100000) (hs : ∀ t ∈ ts, t.size ≤ 1000000000) (hne : ts ≠ []) :
    Calls Tryz.prog 16 #[.slice oa ts.length cap] w (MgPost ts w) := by
  obtain ⟨i1, hi1, hz10, hz11, hz12⟩ := info_parts Tryz.infoStm
  have hpos : 0 < ts.length := List.length_pos_iff.2 hne
  have hp0 : ((ts.length : Int) == 0) = false := by rw [beq_eq_false_iff_ne]; omega
  have HT := hid hT
  have HS := hid hs
  have HN := hid hn
  have HPOS := hid hpos
  have hnI : (ts.length : Int) ≤ 1100000 := by omega
  clear hT hs hn hne hpos
  go_enter Tryz.func16, Tryz.ntmps16
  go_wp2_with fail
  go_loopw [4, 5] (fun v i wr => ∃ (k : Nat) (sv : List SV), i = .int .i64 (k : Nat) ∧ RmAt w ts k v sv wr) (fun _ i _ => ts.length - (intOf i).toNat)
  case atStart => exact ⟨0, [], rfl, Nat.zero_le _, fun t ht => (by cases ht), Made.nil (Keeps.refl _ _), rfl, fun p hp => (by cases hp), fun p hp => (by cases hp)⟩
  case round =>
    obtain ⟨k, sv, rfl, hM⟩ := hrel
    have hkI : (k : Int) ≤ ts.length := by have := hM.le; omega
    have hsl := hM.len
    obtain ⟨ob, cb, rfl, -, sb⟩ := hM.made.row.form
    by_cases hk : k < ts.length
    · obtain ⟨g, off, rfl, r0⟩ := (HT.out.kept hM.made.keep) k hk
      have hkI2 : (k : Int) < ts.length := by omega
      have hslI : (sv.length : Int) ≤ 1100000 := by have := HN.out; omega
      have HSL : Hid (sv.length ≤ 1100000) := by have := HN.out; show _ ≤ _; omega
      have HDC := hid (refDecode_any ts[k] wr (HS.out _ (List.getElem_mem hk)))
      have HNX := hid (fun v' W1 w' p => hM.next (v' := v') (W1 := W1) (w' := w') (p := p) hk)
      have HBD : Hid ((∀ s, readO ts[k].data.toList ≠ .ok s) → mgR ts = (⟨#[]⟩, 6)) := fun h => mgR_bad hk (okS_none h)
      have HKE := hid hM.made.keep
      have HRW := hid hM.made.row
      have HK := hid hk
      clear hM hsl sb
      generalize ts[k] = text at *
      clear hk
      rcases hx : readO text.data.toList with _ | p | s
      · rw [hx] at HDC HBD
        go_wp2_with fail
        refine HDC.out.mono ?_
        rintro e w2 ⟨rfl, k2⟩
        unfold strZ
        go_wp2
        go_ret2
        exact ⟨by rw [HBD.out (fun s h => by cases h)]; rfl, (HKE.out.tr k2 (fun _ h => h)).al _⟩
      · rw [hx] at HDC HBD
        go_wp2_with fail
        refine HDC.out.mono ?_
        rintro e w2 ⟨rfl, k2⟩
        unfold strZ
        go_wp2
        go_ret2
        exact ⟨by rw [HBD.out (fun s h => by cases h)]; rfl, (HKE.out.tr k2 (fun _ h => h)).al _⟩
      · rw [hx] at HDC HNX
        clear HBD hx
        go_wp2_with fail
        refine HDC.out.mono ?_
        rintro e w2 ⟨⟨o3, c3, rfl, row3, -⟩, k2⟩
        have K2 := hid k2
        have HR3 := hid row3
        have HRW2 := hid (HRW.out.kept k2 (fun _ _ h => h))
        obtain ⟨xs, hxs⟩ : ∃ xs, xs = #[Value.bool s.full, .int .i64 (s.a : Nat), .int .i64 (s.b : Nat), .slice o3 s.recs.length c3] := ⟨_, rfl⟩
        clear row3 k2 HDC hxs xs
        go_wp2_with (first | (at_builtin; go_must (refine wpList_append_row _ rfl _ _ 22 rfl 34 i1 _ 4 48 Tryz.underlying22 hi1 hz10 hz11 hz12 rfl (.slice ob sv.length cb) sv.length _ rfl ((HRW2.out.kept (Keeps.alloc (fun _ => False) _ _) (fun _ _ h => h)).kept (Keeps.alloc (fun _ => False) _ _) (fun _ _ h => h)) ⟨w2.heap.size + 1, 0, none⟩ 1 1 [.bool s.full, .int .i64 (s.a : Nat), .int .i64 (s.b : Nat), .slice o3 s.recs.length c3] rfl rfl (news_at _ #[.bool s.full, .int .i64 (s.a : Nat), .int .i64 (s.b : Nat), .slice o3 s.recs.length c3] _ (by simp)) (by simp [Value.oneCell']) (by have := HSL.out; unfold maxLen; omega) (by have := HSL.out; omega) ?_; intro v' w4 hown' hgrow _ hat'; obtain ⟨g', cap', rfl⟩ := hown'.succ; have HN4 := hid (HNX.out _ _ _ ⟨s, o3, c3⟩ rfl (K2.out.tr ((Keeps.refl (fun _ => False) w2).al _) (fun _ h => h) |>.al _) hown' hgrow hat' (HR3.out.kept (((Keeps.refl (fun _ => False) w2).al _).al _) (fun _ _ h => h))); clear hown' hgrow hat')) | fail)
        exact ⟨⟨k + 1, _, by go_num, HN4.out⟩, by simp only [intOf]; have := HK.out; omega⟩
    · obtain ⟨w0, rfl⟩ : ∃ w0, w0 = wr := ⟨_, rfl⟩
      have hkn : ¬ ((k : Int) < ts.length) := by omega
      have hke : k = ts.length := by have := hM.le; omega
      subst hke
      have htk : ts.take ts.length = ts := List.take_of_length_le (Nat.le_refl _)
      have hsame := hM.same
      have hoks := hM.oks
      rw [htk] at hsame hoks
      have HALL : Hid (mgR ts = mgS (sv.map SV.s)) := by
        show _ = _
        rw [hsame]
        unfold mgR
        rw [if_pos hoks]
      have HST : Hid (∀ s ∈ sv.map SV.s, StrOk s) := fun s hs => by
        obtain ⟨p, hp, rfl⟩ := List.mem_map.1 hs
        exact hM.strs p hp
      have HROWS := hid hM.rows
      have HKE := hid hM.made.keep
      have HRW := hid hM.made.row
      obtain ⟨m, hm⟩ : ∃ m, sv.length = m + 1 := ⟨sv.length - 1, by have := HPOS.out; omega⟩
      have hmn : m ≤ 1100000 := by have := HN.out; omega
      obtain ⟨gl, rfl⟩ := sb (by omega)
      obtain ⟨p0, hp0'⟩ : ∃ p, sv[0]? = some p := ⟨_, List.getElem?_eq_getElem (by omega)⟩
      obtain ⟨pm, hpm⟩ : ∃ p, sv[m]? = some p := ⟨_, List.getElem?_eq_getElem (by omega)⟩
      obtain ⟨a0, a1, -, -⟩ := sv_cells HRW.out hp0'
      obtain ⟨-, -, b2, -⟩ := sv_cells HRW.out hpm
      simp at a0 a1
      have ka := Keeps.alloc (fun _ => False) w0 (.cells #[.bool false, .int .i64 0, .int .i64 0, .slice none 0 0] 34)
      have a0' := ka.cell a0 (fun h => h)
      have a1' := ka.cell a1 (fun h => h)
      have b2' := ka.cell b2 (fun h => h)
      have HP0 := hid hp0'
      have HPM := hid hpm
      have HM := hid hm
      rw [hm]
      have hmI : (m : Int) ≤ 1100000 := by omega
      clear hM hsame hoks htk hsl sb hk hp0' hpm hm ka
      go_wp2_with fail
      go_region
      go_wp2_with fail
      have HRO0 : Hid (RoAt w0 w0.heap.size p0.s.full p0.s.a pm.s.b (.slice none 0 0) [] (w0.alloc (.cells #[.bool p0.s.full, .int .i64 (p0.s.a : Nat), .int .i64 (pm.s.b : Nat), .slice none 0 0] 34)).drew) := ⟨heap_new w0 _, Row.nil _ _ _, ((Keeps.refl (fun _ => False) w0).al _).dr, Nat.le_refl _⟩
      generalize (w0.alloc (.cells #[.bool p0.s.full, .int .i64 (p0.s.a : Nat), .int .i64 (pm.s.b : Nat), .slice none 0 0] 34)).drew = w1 at *
      obtain ⟨xb, hxb⟩ : ∃ xb, xb = w0.heap.size := ⟨_, rfl⟩
      rw [← hxb] at HRO0 ⊢
      clear hxb a0 a1 b2 a0' a1' b2'
      have hmlen : (sv.map SV.s).length = m + 1 := by rw [List.length_map, HM.out]
      have HML := hid hmlen
      clear hmlen
      go_loopw [10] (fun i wr => ∃ (j : Nat) (v : Value) (L : List RecB), j ≤ m + 1 ∧ i = .int .i64 (j : Nat) ∧ RoAt w0 xb p0.s.full p0.s.a pm.s.b v L wr ∧ RoSt (sv.map SV.s) j p0.s.full p0.s.a L) (fun i _ => m + 1 - (intOf i).toNat)
      case atStart => exact ⟨0, _, [], Nat.zero_le _, rfl, HRO0.out, RoSt.zero _ _ _⟩
      case round =>
        obtain ⟨j, v, L, hj, rfl, hO, hS⟩ := hrel
        obtain ⟨wo, rfl⟩ : ∃ wo, wo = wr := ⟨_, rfl⟩
        have hjI : (j : Int) ≤ m + 1 := by omega
        have hLs := hS.ok HST.out (by rw [HML.out]; exact hj)
        have HLS := hid hLs
        obtain ⟨o2, c2, rfl, -, -⟩ := hO.row.form
        have HO := hid hO
        have HSS := hid hS
        by_cases hjm : j < m + 1
        · obtain ⟨p, hp⟩ : ∃ p, sv[j]? = some p := ⟨_, List.getElem?_eq_getElem (by rw [HM.out]; exact hjm)⟩
          have hps : (sv.map SV.s)[j]? = some p.s := by rw [List.getElem?_map, hp]; rfl
          obtain ⟨q0, q1, q2, q3⟩ := sv_cells (HRW.out.kept hO.keep (fun _ _ h => h)) hp
          have hjmI : (j : Int) < m + 1 := by omega
          have HP := hid hp
          have HPS := hid hps
          have HSO := hid (HST.out p.s (by
            have := List.mem_of_getElem? hps
            exact this))
          have HROW := hid (HROWS.out p (List.mem_of_getElem? hp))
          have HJM := hid hjm
          -- does it follow?
          have hcase : j = 0 ∨ (∃ j' r, j = j' + 1 ∧ sv[j']? = some r ∧ ((p.s.full = false ∧ p.s.a = r.s.b) ∨ (p.s.full = true ∨ p.s.a ≠ r.s.b))) := by
            rcases Nat.eq_zero_or_pos j with h0 | h0
            · exact .inl h0
            · obtain ⟨r, hr⟩ : ∃ r, sv[j - 1]? = some r := ⟨_, List.getElem?_eq_getElem (by rw [HM.out]; omega)⟩
              refine .inr ⟨j - 1, r, by omega, hr, ?_⟩
              by_cases h1 : p.s.full = true
              · exact .inr (.inl h1)
              · by_cases h2 : p.s.a = r.s.b
                · exact .inl ⟨by simpa using h1, h2⟩
                · exact .inr (.inr h2)
          clear hO hS hj hp hps hjm hLs
          obtain ⟨rl, hrl⟩ : ∃ rl, rl = p.s.recs.map recB := ⟨_, rfl⟩
          have hln : p.s.recs.length = rl.length := by rw [hrl, List.length_map]
          obtain ⟨po, hpo⟩ : ∃ po, po = p.o := ⟨_, rfl⟩
          obtain ⟨pc, hpc⟩ : ∃ pc, pc = p.cp := ⟨_, rfl⟩
          have HRWS : Hid (RecsAt w0 (.slice po rl.length pc) rl) := by
            have h9 : Row _ _ _ _ _ _ := HROW.out
            rw [hln, ← hrl, ← hpo, ← hpc] at h9
            exact h9
          have HCELL : Hid (∀ W, Keeps (fun _ => False) w0 W → W.cell? ⟨gl, j * 4 + 3, none⟩ = some (.slice po rl.length pc)) := fun W hW => by
            obtain ⟨-, -, -, h9⟩ := sv_cells (HRW.out.kept hW (fun _ _ h => h)) HP.out
            rw [hln, ← hpo, ← hpc] at h9
            exact h9
          have hr1k : rl.length ≤ 1000 := by rw [← hln]; exact HSO.out.1
          have HR1K := hid hr1k
          have hr1kI : (rl.length : Int) ≤ 1000 := by omega
          have HRL := hid hrl
          clear hrl hln hpo hpc hr1k q3
          rcases hcase with h0 | ⟨j', r, hjj, hr, hgo | hno⟩
          rotate_right
          · have hrs : (sv.map SV.s)[j - 1]? = some r.s := by rw [hjj, Nat.add_sub_cancel, List.getElem?_map, hr]; rfl
            obtain ⟨-, -, s2, -⟩ := sv_cells (HRW.out.kept HO.out.keep (fun _ _ h => h)) hr
            have HMG := hid (HSS.out.not (by omega) HPS.out hrs hno)
            have hsub : (j : Int) - 1 = (j' : Int) := by omega
            have hj'I : (j' : Int) ≤ 1100000 := by omega
            have hj'm : (j' : Int) < m + 1 := by omega
            have dj : decide ((j : Int) > 0) = true := decide_eq_true (by omega)
            have dn : decide (0 < j) = true := decide_eq_true (by omega)
            have HNO := hid hno
            clear hrs hr hjj hno
            by_cases hpf : p.s.full = true
            · rw [hpf] at q0
              clear hpf
              go_wp2_with fail
              go_quiet (fail)
              go_wp2
              go_ret2
              exact ⟨by rw [HALL.out, HMG.out]; rfl, (HKE.out.tr HO.out.keep (fun _ h => h)).drN nq⟩
            · have hpf2 : p.s.full = false := by simpa using hpf
              have hab : p.s.a ≠ r.s.b := HNO.out.resolve_left hpf
              have habB : ((p.s.a : Int) == (r.s.b : Int)) = false := by rw [beq_eq_false_iff_ne]; omega
              have habI : ¬ ((p.s.a : Int) = (r.s.b : Int)) := by omega
              have habN : (p.s.a == r.s.b) = false := by rw [beq_eq_false_iff_ne]; exact hab
              rw [hpf2] at q0
              clear hpf hpf2
              go_wp2_with fail
              go_quiet (fail)
              go_wp2
              go_ret2
              exact ⟨by rw [HALL.out, HMG.out]; rfl, (HKE.out.tr HO.out.keep (fun _ h => h)).drN nq⟩
          · have dj : decide ((j : Int) > 0) = false := decide_eq_false (by omega)
            have dn : decide (0 < j) = false := decide_eq_false (by omega)
            have HNXT : Hid (RoSt (sv.map SV.s) (j + 1) p0.s.full p0.s.a (rl.foldl placedL L)) := by
              have h9 := HSS.out.next HPS.out (fun _ => by
                have h8 := HP.out
                rw [h0, HP0.out] at h8
                cases h8
                exact ⟨rfl, rfl⟩) (fun h => by omega)
              rw [← HRL.out] at h9
              exact h9
            clear h0
            go_wp2_with fail
            go_quiet (fail)
            go_wp2_with fail
            have HO5 : Hid (RoAt w0 xb p0.s.full p0.s.a pm.s.b (.slice o2 L.length c2) L (wo.drewN nq)) := ⟨HO.out.top, HO.out.row.kept ((Keeps.refl (fun _ => False) wo).drN nq) (fun _ _ h => h), HO.out.keep.drN nq, HO.out.xbw⟩
            generalize wo.drewN nq = w5 at *
            go_loopw [11] (fun kv wr => ∃ (k : Nat) (v2 : Value), k ≤ rl.length ∧ kv = .int .i64 (k : Nat) ∧ RoAt w0 xb p0.s.full p0.s.a pm.s.b v2 ((rl.take k).foldl placedL L) wr) (fun kv _ => rl.length - (intOf kv).toNat)
            case atStart => exact ⟨0, _, Nat.zero_le _, rfl, HO5.out⟩
            case round =>
              obtain ⟨k, v2, hk, rfl, hO⟩ := hrel
              have hkI : (k : Int) ≤ rl.length := by omega
              have q3 := HCELL.out wr hO.keep
              by_cases hkl : k < rl.length
              · obtain ⟨op, cq, he, -, sp⟩ := HRWS.out.form
                have hpo : ∃ gp, po = some ⟨gp, 0, none⟩ := by
                  injection he with e1 e2 e3
                  rw [e1]
                  exact sp (by omega)
                obtain ⟨gp, rfl⟩ := hpo
                obtain ⟨r0, r1, r2⟩ := rec_cells (Row.kept HRWS.out hO.keep (fun _ _ h => h)) k hkl
                have HTK : Hid ((rl.take (k + 1)).foldl placedL L = placedL ((rl.take k).foldl placedL L) rl[k]) := by
                  show _ = _
                  rw [List.take_succ_eq_append_getElem hkl, List.foldl_append]
                  rfl
                have hfl := fold_placed_len (rl.take k) L
                have htl : (rl.take k).length ≤ k := by rw [List.length_take]; omega
                obtain ⟨y, hy⟩ : ∃ y, y = rl[k] := ⟨_, rfl⟩
                rw [← hy] at r0 r1 r2 HTK
                obtain ⟨o6, c6, rfl, -, -⟩ := hO.row.form
                have HO6 := hid hO
                have HKL := hid hkl
                have hLb : ((rl.take k).foldl placedL L).length < 1000000000000 := by have h1 := HLS.out.1; have h2 := HJM.out; have h3 : m ≤ 1100000 := (by omega); have h4 := HR1K.out; omega
                clear hO he sp hy hfl htl
                generalize (rl.take k).foldl placedL L = LL at *
                have HPL := hid (fun W (hW : Keeps (fun _ => False) wr W) => placed_any (.slice o6 LL.length c6) LL y W (HO6.out.row.kept hW (fun _ _ h => h)) hLb)
                unfold RecB.val at HPL
                have t3 := cell_of_heap HO6.out.top 3
                simp at t3
                have hklI : (k : Int) < rl.length := by omega
                have HFA : Hid (∀ W, Keeps (fun _ => False) wr W → W.cell? ⟨xb, 3, none⟩ = some (.slice o6 LL.length c6) ∧ W.frozen? ⟨xb, 3, none⟩ = false) := fun W hW => by
                  have h9 := (hW.block xb (Array.getElem?_eq_some_iff.1 HO6.out.top).1 (fun h => h)).trans HO6.out.top
                  have h8 := cell_of_heap h9 3
                  simp at h8
                  exact ⟨h8, frozen_of_heap h9 3⟩
                clear hkl hk hLb
                go_wp2_with fail
                go_region_with (go_at_call 31; go_must (refine (HPL.out _ ((Keeps.refl (fun _ => False) wr).dr)).mono ?_; rintro e w7 ⟨v', rfl, hM⟩; obtain ⟨ov, cv, rfl, -, -⟩ := hM.row.form; have HM7 := hid hM; have HK7 := hid (((Keeps.refl (fun _ => False) wr).dr).tr hM.keep (fun _ h => h)); obtain ⟨z3, z4⟩ := HFA.out _ HK7.out; clear hM))
                all_goals
                  go_wp2
                  exact ⟨⟨k + 1, _, HKL.out, by go_num, by rw [HTK.out]; exact HO6.out.put HK7.out HM7.out.row⟩, by simp only [intOf]; have := HKL.out; omega⟩
              · have hkn : ¬ ((k : Int) < rl.length) := by omega
                have e : rl.take k = rl := List.take_of_length_le (by omega)
                rw [e] at hO
                have HO6 := hid hO
                clear hO e hkl hk
                go_wp2
                exact ⟨⟨j + 1, _, _, HJM.out, by go_num, HO6.out, HNXT.out⟩, by simp only [intOf]; have := HJM.out; omega⟩
          · obtain ⟨-, -, s2, -⟩ := sv_cells (HRW.out.kept HO.out.keep (fun _ _ h => h)) hr
            have hsub : (j : Int) - 1 = (j' : Int) := by omega
            have hj'I : (j' : Int) ≤ 1100000 := by omega
            have hj'm : (j' : Int) < m + 1 := by omega
            have dj : decide ((j : Int) > 0) = true := decide_eq_true (by omega)
            have dn : decide (0 < j) = true := decide_eq_true (by omega)
            have HNXT : Hid (RoSt (sv.map SV.s) (j + 1) p0.s.full p0.s.a (rl.foldl placedL L)) := by
              have h9 := HSS.out.next HPS.out (fun h => by omega) (fun _ => ⟨hgo.1, fun q hq => by
                rw [hjj, Nat.add_sub_cancel, List.getElem?_map, hr] at hq
                cases hq
                exact hgo.2⟩)
              rw [← HRL.out] at h9
              exact h9
            rw [hgo.1] at q0
            rw [hgo.2] at q1
            clear hjj hr hgo
            go_wp2_with fail
            go_quiet (fail)
            go_wp2_with fail
            have HO5 : Hid (RoAt w0 xb p0.s.full p0.s.a pm.s.b (.slice o2 L.length c2) L (wo.drewN nq)) := ⟨HO.out.top, HO.out.row.kept ((Keeps.refl (fun _ => False) wo).drN nq) (fun _ _ h => h), HO.out.keep.drN nq, HO.out.xbw⟩
            generalize wo.drewN nq = w5 at *
            go_loopw [11] (fun kv wr => ∃ (k : Nat) (v2 : Value), k ≤ rl.length ∧ kv = .int .i64 (k : Nat) ∧ RoAt w0 xb p0.s.full p0.s.a pm.s.b v2 ((rl.take k).foldl placedL L) wr) (fun kv _ => rl.length - (intOf kv).toNat)
            case atStart => exact ⟨0, _, Nat.zero_le _, rfl, HO5.out⟩
            case round =>
              obtain ⟨k, v2, hk, rfl, hO⟩ := hrel
              have hkI : (k : Int) ≤ rl.length := by omega
              have q3 := HCELL.out wr hO.keep
              by_cases hkl : k < rl.length
              · obtain ⟨op, cq, he, -, sp⟩ := HRWS.out.form
                have hpo : ∃ gp, po = some ⟨gp, 0, none⟩ := by
                  injection he with e1 e2 e3
                  rw [e1]
                  exact sp (by omega)
                obtain ⟨gp, rfl⟩ := hpo
                obtain ⟨r0, r1, r2⟩ := rec_cells (Row.kept HRWS.out hO.keep (fun _ _ h => h)) k hkl
                have HTK : Hid ((rl.take (k + 1)).foldl placedL L = placedL ((rl.take k).foldl placedL L) rl[k]) := by
                  show _ = _
                  rw [List.take_succ_eq_append_getElem hkl, List.foldl_append]
                  rfl
                have hfl := fold_placed_len (rl.take k) L
                have htl : (rl.take k).length ≤ k := by rw [List.length_take]; omega
                obtain ⟨y, hy⟩ : ∃ y, y = rl[k] := ⟨_, rfl⟩
                rw [← hy] at r0 r1 r2 HTK
                obtain ⟨o6, c6, rfl, -, -⟩ := hO.row.form
                have HO6 := hid hO
                have HKL := hid hkl
                have hLb : ((rl.take k).foldl placedL L).length < 1000000000000 := by have h1 := HLS.out.1; have h2 := HJM.out; have h3 : m ≤ 1100000 := (by omega); have h4 := HR1K.out; omega
                clear hO he sp hy hfl htl
                generalize (rl.take k).foldl placedL L = LL at *
                have HPL := hid (fun W (hW : Keeps (fun _ => False) wr W) => placed_any (.slice o6 LL.length c6) LL y W (HO6.out.row.kept hW (fun _ _ h => h)) hLb)
                unfold RecB.val at HPL
                have t3 := cell_of_heap HO6.out.top 3
                simp at t3
                have hklI : (k : Int) < rl.length := by omega
                have HFA : Hid (∀ W, Keeps (fun _ => False) wr W → W.cell? ⟨xb, 3, none⟩ = some (.slice o6 LL.length c6) ∧ W.frozen? ⟨xb, 3, none⟩ = false) := fun W hW => by
                  have h9 := (hW.block xb (Array.getElem?_eq_some_iff.1 HO6.out.top).1 (fun h => h)).trans HO6.out.top
                  have h8 := cell_of_heap h9 3
                  simp at h8
                  exact ⟨h8, frozen_of_heap h9 3⟩
                clear hkl hk hLb
                go_wp2_with fail
                go_region_with (go_at_call 31; go_must (refine (HPL.out _ ((Keeps.refl (fun _ => False) wr).dr)).mono ?_; rintro e w7 ⟨v', rfl, hM⟩; obtain ⟨ov, cv, rfl, -, -⟩ := hM.row.form; have HM7 := hid hM; have HK7 := hid (((Keeps.refl (fun _ => False) wr).dr).tr hM.keep (fun _ h => h)); obtain ⟨z3, z4⟩ := HFA.out _ HK7.out; clear hM))
                all_goals
                  go_wp2
                  exact ⟨⟨k + 1, _, HKL.out, by go_num, by rw [HTK.out]; exact HO6.out.put HK7.out HM7.out.row⟩, by simp only [intOf]; have := HKL.out; omega⟩
              · have hkn : ¬ ((k : Int) < rl.length) := by omega
                have e : rl.take k = rl := List.take_of_length_le (by omega)
                rw [e] at hO
                have HO6 := hid hO
                clear hO e hkl hk
                go_wp2
                exact ⟨⟨j + 1, _, _, HJM.out, by go_num, HO6.out, HNXT.out⟩, by simp only [intOf]; have := HJM.out; omega⟩
        · have hjn : ¬ ((j : Int) < m + 1) := by omega
          have hje : j = m + 1 := by omega
          have HR : Hid (mgR ts = encR p0.s.full p0.s.a pm.s.b (outC p0.s.full L)) := by
            show _ = _
            rw [HALL.out]
            refine RoSt.all (s := pm.s) ?_ ?_ rfl
            · rw [HML.out, ← hje]
              exact HSS.out
            · rw [HML.out, Nat.add_sub_cancel, List.getElem?_map, HPM.out]
              rfl
          have t0 := cell_of_heap hO.top 0
          have t1 := cell_of_heap hO.top 1
          have t2 := cell_of_heap hO.top 2
          have t3 := cell_of_heap hO.top 3
          have f3 := frozen_of_heap hO.top 3
          simp at t0 t1 t2 t3
          have hLb : L.length < 1000000000000 := by have h1 := HLS.out.1; omega
          have HSZ : Hid (∀ r ∈ L, r.key.size ≤ maxLen ∧ r.value.size ≤ maxLen) := fun r hr => by have := HLS.out.2 r hr; unfold maxLen; omega
          have HKO := hid (HKE.out.tr hO.keep (fun _ h => h))
          clear hS hj hjm hje hLs hO
          by_cases hf : p0.s.full = true
          · rw [hf] at t0 HR HO
            have HSD := hid (standing_any (.slice o2 L.length c2) L wo HO.out.row hLb)
            have HRT : Hid (mgR ts = encR true p0.s.a pm.s.b (standingL L)) := HR.out
            clear hf HR hLb
            go_wp2_with fail
            refine HSD.out.mono ?_
            rintro e w6 ⟨v', rfl, hM⟩
            obtain ⟨ov, cv, rfl, -, -⟩ := hM.row.form
            have HO6 := hid (HO.out.put (v' := .slice ov (standingL L).length cv) (L' := standingL L) hM.keep hM.row)
            have top6 := (hM.keep.block xb (Array.getElem?_eq_some_iff.1 HO.out.top).1 (fun h => h)).trans HO.out.top
            have y3 := cell_of_heap top6 3
            have z3 := frozen_of_heap top6 3
            have y0 := cell_of_heap top6 0
            have y1 := cell_of_heap top6 1
            have y2 := cell_of_heap top6 2
            simp at y0 y1 y2 y3
            have HSZ2 : Hid (∀ r ∈ standingL L, r.key.size ≤ maxLen ∧ r.value.size ≤ maxLen) := fun r hr => HSZ.out r (List.mem_filter.1 hr).1
            have HEN := hid (refEncode_all true p0.s.a pm.s.b ov cv (standingL L) _ HO6.out.row HSZ2.out)
            have HK6 : Hid (Keeps (fun _ => False) w (w6.setCell ⟨xb, 3, none⟩ (.slice ov (standingL L).length cv))) := HKE.out.tr HO6.out.keep (fun _ h => h)
            clear hM HSD t0 t1 t2 t3 f3 top6 HSZ2
            generalize hsl : (standingL L).length = sl at *
            go_wp2_with fail
            refine HEN.out.mono ?_
            rintro e w7 ⟨rfl, k7⟩
            have HK7 := hid (HK6.out.tr k7 (fun _ h => h))
            clear k7 HEN
            go_wp2
            go_ret2
            exact ⟨by rw [HRT.out]; rfl, HK7.out⟩
          · have hff : p0.s.full = false := by simpa using hf
            rw [hff] at t0 HR
            have HRT : Hid (mgR ts = encR false p0.s.a pm.s.b L) := HR.out
            have HEN := hid (refEncode_all false p0.s.a pm.s.b o2 c2 L wo HO.out.row HSZ.out)
            clear hf hff HR hLb
            go_wp2_with fail
            refine HEN.out.mono ?_
            rintro e w7 ⟨rfl, k7⟩
            have HK7 := hid (HKO.out.tr k7 (fun _ h => h))
            clear k7 HEN
            go_wp2
            go_ret2
            exact ⟨by rw [HRT.out]; rfl, HK7.out⟩

end Go.Proofs.YtkpaiaddikpdoaaGreatDoor
