import Derived.Test.YtkpaiaddikpdoaaGreatDoorM08

/- annalsref: IsStream. -/
namespace Go.Proofs.YtkpaiaddikpdoaaGreatDoor
open Go.RowKit Go.Shelf

attribute [local go_sem] Oper.semAt_some

theorem run_geq_s {P : Program} {t : TypeId} (x y : ByteArray) (w : World) : (binOp BinOp.geq t (.string x) (.string y)).run P w = .ok (.bool (!ltK x y)) w := by
  simp [binOp, Op.stringOp, ltK]

theorem ltK_empty {s : ByteArray} (h : keyB s = true) : ltK ⟨#[]⟩ s = true := by
  rw [ltK_iff]
  have h1 : 1 ≤ s.size := by simp [keyB] at h; omega
  show ([] : List UInt8) < s.data.toList
  cases hd : s.data.toList with
  | nil => have : s.data.toList.length = s.size := rfl; rw [hd] at this; simp at this; omega
  | cons x t => exact List.nil_lt_cons x t

set_option maxRecDepth 100000 in
set_option maxHeartbeats 4000000 in
theorem refIs_loop (full : Bool) (a b : Int) (oa : Option Addr) (cap : Nat) (l : List RecB) (w : World) (hr : RecIn w oa l) (hl : l.length ≤ 1000) (hs : ∀ r ∈ l, r.key.size ≤ maxLen ∧ r.value.size ≤ maxLen) (hfit : fitB full a b = true) :
    Calls Tryz.prog 18 #[.agg #[.bool full, .int .i64 a, .int .i64 b, .slice oa l.length cap]] w fun e w' => e = .returned (.bool (judgeB full a b l)) ∧ Keeps (fun _ => False) w w' := by
  have HR := hid hr
  have HS := hid hs
  have HL := hid hl
  have hlI : (l.length : Int) ≤ 1000 := by omega
  have HJ : Hid (judgeB full a b l = okTo full l l.length) := by show _ = _; unfold judgeB; rw [hfit, decide_eq_true hl]; rfl
  have HBAD := hid (fun k (hk : k < l.length) (h : okRec full (aheadB l k) l[k] = false) => okTo_bad hk h a b)
  have hab : (0 ≤ a ∧ a ≤ 1000000000) ∧ (0 ≤ b ∧ b ≤ 1000000000) ∧ (full = true → a = 0) ∧ (full = false → a < b) := by
    unfold fitB stateB at hfit
    simp only [Bool.and_eq_true, decide_eq_true_eq] at hfit
    refine ⟨hfit.1.1, hfit.1.2, fun e => ?_, fun e => ?_⟩
    · have := hfit.2; rw [if_pos e] at this; simpa using this
    · have := hfit.2; rw [if_neg (by simp [e])] at this; simpa using this
  generalize judgeB full a b l = jb at *
  obtain ⟨⟨a0, a1⟩, ⟨b0, b1⟩, hfa, hfb⟩ := hab
  have hfa' : full = true → a = 0 := hfa
  clear hr hs hl hfit
  have HXW := hid (heap_new w (.cells #[.bool full, .int .i64 a, .int .i64 b, .slice oa l.length cap] 34))
  go_enter Tryz.func18, Tryz.ntmps18
  cases full with
  | true =>
    obtain rfl := hfa rfl
    go_wp2_with fail
    clear hfa hfb hfa'
    go_loopw [3] (fun i wr => ∃ k : Nat, k ≤ l.length ∧ i = .int .i64 k ∧ okTo true l k = true ∧ Keeps (fun _ => False) (w.alloc (.cells #[.bool true, .int .i64 0, .int .i64 b, .slice oa l.length cap] 34)) wr) (fun i _ => l.length - (intOf i).toNat)
    case atStart => exact ⟨0, Nat.zero_le _, rfl, rfl, Keeps.refl _ _⟩
    case round =>
      obtain ⟨k, hk, rfl, hok, hkr⟩ := hrel
      have hkw : Keeps (fun _ => False) w wr := ((Keeps.refl (fun _ => False) w).al _).tr hkr (fun _ h => h)
      have hxr := box_kept hkr (fun h => h)
      have x0 := cell_of_heap hxr 0
      have x3 := cell_of_heap hxr 3
      simp at x0 x3
      have hkI : (k : Int) ≤ l.length := by omega
      by_cases hlt2 : k < l.length
      · obtain ⟨g, off, rfl, r0, r1, r2⟩ := HR.out.kept hkw k hlt2
        obtain ⟨m1, m2⟩ := HS.out l[k] (List.getElem_mem hlt2)
        have HKY := hid (fun W => isKeyR_any l[k].key W m1)
        have HVL := hid (fun W => isValueR_any l[k].value W m2)
        have HOK : Hid (okRec true (aheadB l k) l[k] = (keyB l[k].key && valB l[k].value && ltK (aheadB l k) l[k].key && !(l[k].gone && (true || !l[k].value.toList.isEmpty)))) := hid rfl
        have HBK := hid (HBAD.out k hlt2)
        have HNX : Hid (okRec true (aheadB l k) l[k] = true → okTo true l (k + 1) = true) := fun h => by rw [okTo_next hlt2, hok, h]; rfl
        have HPREV : Hid (k = 0 ∨ ∃ p pk, k = p + 1 ∧ aheadB l k = pk ∧ wr.cell? ⟨g, off + p * 3, none⟩ = some (.string pk)) := by
          rcases Nat.eq_zero_or_pos k with e | e
          · exact .inl e
          · obtain ⟨g2, off2, e2, c0, -, -⟩ := HR.out.kept hkw (k - 1) (by omega)
            simp only [Option.some.injEq, Addr.mk.injEq] at e2
            obtain ⟨rfl, rfl, -⟩ := e2
            refine .inr ⟨k - 1, l[k - 1].key, by omega, ?_, c0⟩
            have := ahead_next (l := l) (k := k - 1) (by omega)
            rw [show k - 1 + 1 = k by omega] at this
            exact this
        have HAH0 : Hid (k = 0 → keyB l[k].key = true → ltK (aheadB l k) l[k].key = true) := fun e h => by
          have : aheadB l k = ⟨#[]⟩ := by rw [e]; rfl
          rw [this]
          exact ltK_empty h
        generalize okRec true (aheadB l k) l[k] = okr at *
        generalize aheadB l k = ah at *
        generalize l[k].key = rk at *
        generalize l[k].value = rv at *
        generalize l[k].gone = rg at *
        have HKR := hid hkr
        have HKW := hid hkw
        have HLT := hid hlt2
        have hltI : (k : Int) < l.length := by omega
        clear hkr hkw m1 m2 hok hxr hlt2 hk
        have al := Keeps.alloc (fun _ => False) wr (.cells #[.string rk, .string rv, .bool rg] 31)
        have px0 := al.cell x0 (fun h => h)
        have px3 := al.cell x3 (fun h => h)
        cases hkb : keyB rk with
        | false =>
          rw [hkb] at HKY HOK
          go_wp2_with (first | (go_at_call 40; go_must (refine (HKY.out _).mono ?_; rintro e w2 ⟨rfl, rfl⟩)) | (go_at_call 41; go_must (refine (HVL.out _).mono ?_; rintro e w2 ⟨rfl, rfl⟩)))
          go_ret
          exact ⟨ret_bool (HBK.out (by rw [HOK.out]; simp)).symm, HKW.out.al _⟩
        | true =>
          rw [hkb] at HKY HOK HAH0
          cases hvb : valB rv with
          | false =>
            rw [hvb] at HVL HOK
            go_wp2_with (first | (go_at_call 40; go_must (refine (HKY.out _).mono ?_; rintro e w2 ⟨rfl, rfl⟩)) | (go_at_call 41; go_must (refine (HVL.out _).mono ?_; rintro e w2 ⟨rfl, rfl⟩)))
            go_ret
            exact ⟨ret_bool (HBK.out (by rw [HOK.out]; simp)).symm, HKW.out.al _⟩
          | true =>
            rw [hvb] at HVL HOK
            cases rg with
            | true =>
                go_wp2_with (first | (go_at_call 40; go_must (refine (HKY.out _).mono ?_; rintro e w2 ⟨rfl, rfl⟩)) | (go_at_call 41; go_must (refine (HVL.out _).mono ?_; rintro e w2 ⟨rfl, rfl⟩)))
                go_ret
                exact ⟨ret_bool (HBK.out (by rw [HOK.out]; simp)).symm, HKW.out.al _⟩
            | false =>
              rcases HPREV.out with e0 | ⟨p, pk, e0, hpk, cp⟩
              · have hk0 : ¬ ((k : Int) > 0) := by omega
                have dk : decide (0 < k) = false := decide_eq_false (by omega)
                have HAH := hid (HAH0.out e0 rfl)
                clear e0 HPREV HAH0
                go_wp2_with (first | (go_at_call 40; go_must (refine (HKY.out _).mono ?_; rintro e w2 ⟨rfl, rfl⟩)) | (go_at_call 41; go_must (refine (HVL.out _).mono ?_; rintro e w2 ⟨rfl, rfl⟩)))
                go_quiet (fail)
                go_wp2
                exact ⟨⟨k + 1, HLT.out, by go_num, HNX.out (by rw [HOK.out, HAH.out]; simp), (HKR.out.al _).drN _⟩, by simp only [intOf]; have := HLT.out; omega⟩
              · have hk0 : (k : Int) > 0 := by omega
                have dk : decide (0 < k) = true := decide_eq_true (by omega)
                have hpw : IntKind.i64.wrap ((k : Int) - 1) = (p : Int) := by rw [IntWalk.i64_in ((k : Int) - 1) ⟨by omega, by omega⟩]; omega
                have hpl : (p : Int) < l.length := by have := HLT.out; omega
                have cp1 := al.cell cp (fun h => h)
                have hge : ∀ W, (binOp BinOp.geq 9 (.string pk) (.string rk)).run Tryz.prog W = .ok (.bool (!ltK pk rk)) W := fun W => run_geq_s _ _ _
                have HAH : Hid (ltK ah rk = ltK pk rk) := by show _ = _; rw [hpk]
                clear e0 cp hpk HPREV HAH0
                cases hb3 : ltK pk rk with
                | true =>
                  rw [hb3] at hge HAH
                  go_wp2_with (first | (go_at_call 40; go_must (refine (HKY.out _).mono ?_; rintro e w2 ⟨rfl, rfl⟩)) | (go_at_call 41; go_must (refine (HVL.out _).mono ?_; rintro e w2 ⟨rfl, rfl⟩)))
                  go_quiet (fail)
                  go_wp2
                  exact ⟨⟨k + 1, HLT.out, by go_num, HNX.out (by rw [HOK.out, HAH.out]; simp), (HKR.out.al _).drN _⟩, by simp only [intOf]; have := HLT.out; omega⟩
                | false =>
                  rw [hb3] at hge HAH
                  go_wp2_with (first | (go_at_call 40; go_must (refine (HKY.out _).mono ?_; rintro e w2 ⟨rfl, rfl⟩)) | (go_at_call 41; go_must (refine (HVL.out _).mono ?_; rintro e w2 ⟨rfl, rfl⟩)))
                  go_quiet (fail)
                  go_wp2
                  go_ret
                  exact ⟨ret_bool (HBK.out (by rw [HOK.out, HAH.out]; simp)).symm, (HKW.out.al _).drN _⟩
      · have e : k = l.length := by omega
        have HB : Hid (jb = true) := by show _ = _; rw [HJ.out, ← e]; exact hok
        have HKW := hid hkw
        have hnI : ¬ ((k : Int) < l.length) := by omega
        clear hkr hok hkw hxr e hlt2 hk x0
        go_wp2
        go_ret
        exact ⟨ret_bool HB.out.symm, HKW.out⟩
  | false =>
    have hlt := hfb rfl
    go_wp2_with fail
    clear hfa hfb hfa'
    go_loopw [3] (fun i wr => ∃ k : Nat, k ≤ l.length ∧ i = .int .i64 k ∧ okTo false l k = true ∧ Keeps (fun _ => False) (w.alloc (.cells #[.bool false, .int .i64 a, .int .i64 b, .slice oa l.length cap] 34)) wr) (fun i _ => l.length - (intOf i).toNat)
    case atStart => exact ⟨0, Nat.zero_le _, rfl, rfl, Keeps.refl _ _⟩
    case round =>
      obtain ⟨k, hk, rfl, hok, hkr⟩ := hrel
      have hkw : Keeps (fun _ => False) w wr := ((Keeps.refl (fun _ => False) w).al _).tr hkr (fun _ h => h)
      have hxr := box_kept hkr (fun h => h)
      have x0 := cell_of_heap hxr 0
      have x3 := cell_of_heap hxr 3
      simp at x0 x3
      have hkI : (k : Int) ≤ l.length := by omega
      by_cases hlt2 : k < l.length
      · obtain ⟨g, off, rfl, r0, r1, r2⟩ := HR.out.kept hkw k hlt2
        obtain ⟨m1, m2⟩ := HS.out l[k] (List.getElem_mem hlt2)
        have HKY := hid (fun W => isKeyR_any l[k].key W m1)
        have HVL := hid (fun W => isValueR_any l[k].value W m2)
        have HOK : Hid (okRec false (aheadB l k) l[k] = (keyB l[k].key && valB l[k].value && ltK (aheadB l k) l[k].key && !(l[k].gone && (false || !l[k].value.toList.isEmpty)))) := hid rfl
        have HBK := hid (HBAD.out k hlt2)
        have HNX : Hid (okRec false (aheadB l k) l[k] = true → okTo false l (k + 1) = true) := fun h => by rw [okTo_next hlt2, hok, h]; rfl
        have HPREV : Hid (k = 0 ∨ ∃ p pk, k = p + 1 ∧ aheadB l k = pk ∧ wr.cell? ⟨g, off + p * 3, none⟩ = some (.string pk)) := by
          rcases Nat.eq_zero_or_pos k with e | e
          · exact .inl e
          · obtain ⟨g2, off2, e2, c0, -, -⟩ := HR.out.kept hkw (k - 1) (by omega)
            simp only [Option.some.injEq, Addr.mk.injEq] at e2
            obtain ⟨rfl, rfl, -⟩ := e2
            refine .inr ⟨k - 1, l[k - 1].key, by omega, ?_, c0⟩
            have := ahead_next (l := l) (k := k - 1) (by omega)
            rw [show k - 1 + 1 = k by omega] at this
            exact this
        have HAH0 : Hid (k = 0 → keyB l[k].key = true → ltK (aheadB l k) l[k].key = true) := fun e h => by
          have : aheadB l k = ⟨#[]⟩ := by rw [e]; rfl
          rw [this]
          exact ltK_empty h
        generalize okRec false (aheadB l k) l[k] = okr at *
        generalize aheadB l k = ah at *
        generalize l[k].key = rk at *
        generalize l[k].value = rv at *
        generalize l[k].gone = rg at *
        have HKR := hid hkr
        have HKW := hid hkw
        have HLT := hid hlt2
        have hltI : (k : Int) < l.length := by omega
        clear hkr hkw m1 m2 hok hxr hlt2 hk
        have al := Keeps.alloc (fun _ => False) wr (.cells #[.string rk, .string rv, .bool rg] 31)
        have px0 := al.cell x0 (fun h => h)
        have px3 := al.cell x3 (fun h => h)
        cases hkb : keyB rk with
        | false =>
          rw [hkb] at HKY HOK
          go_wp2_with (first | (go_at_call 40; go_must (refine (HKY.out _).mono ?_; rintro e w2 ⟨rfl, rfl⟩)) | (go_at_call 41; go_must (refine (HVL.out _).mono ?_; rintro e w2 ⟨rfl, rfl⟩)))
          go_ret
          exact ⟨ret_bool (HBK.out (by rw [HOK.out]; simp)).symm, HKW.out.al _⟩
        | true =>
          rw [hkb] at HKY HOK HAH0
          cases hvb : valB rv with
          | false =>
            rw [hvb] at HVL HOK
            go_wp2_with (first | (go_at_call 40; go_must (refine (HKY.out _).mono ?_; rintro e w2 ⟨rfl, rfl⟩)) | (go_at_call 41; go_must (refine (HVL.out _).mono ?_; rintro e w2 ⟨rfl, rfl⟩)))
            go_ret
            exact ⟨ret_bool (HBK.out (by rw [HOK.out]; simp)).symm, HKW.out.al _⟩
          | true =>
            rw [hvb] at HVL HOK
            cases rg with
            | true =>
                cases hb4 : rv.toList.isEmpty with
                | false =>
                  go_wp2_with (first | (go_at_call 40; go_must (refine (HKY.out _).mono ?_; rintro e w2 ⟨rfl, rfl⟩)) | (go_at_call 41; go_must (refine (HVL.out _).mono ?_; rintro e w2 ⟨rfl, rfl⟩)))
                  go_ret
                  exact ⟨ret_bool (HBK.out (by rw [HOK.out, hb4]; simp)).symm, HKW.out.al _⟩
                | true =>
                  rcases HPREV.out with e0 | ⟨p, pk, e0, hpk, cp⟩
                  · have hk0 : ¬ ((k : Int) > 0) := by omega
                    have dk : decide (0 < k) = false := decide_eq_false (by omega)
                    have HAH := hid (HAH0.out e0 rfl)
                    clear e0 HPREV HAH0
                    go_wp2_with (first | (go_at_call 40; go_must (refine (HKY.out _).mono ?_; rintro e w2 ⟨rfl, rfl⟩)) | (go_at_call 41; go_must (refine (HVL.out _).mono ?_; rintro e w2 ⟨rfl, rfl⟩)))
                    go_quiet (fail)
                    go_wp2
                    exact ⟨⟨k + 1, HLT.out, by go_num, HNX.out (by rw [HOK.out, HAH.out, hb4]; simp), (HKR.out.al _).drN _⟩, by simp only [intOf]; have := HLT.out; omega⟩
                  · have hk0 : (k : Int) > 0 := by omega
                    have dk : decide (0 < k) = true := decide_eq_true (by omega)
                    have hpw : IntKind.i64.wrap ((k : Int) - 1) = (p : Int) := by rw [IntWalk.i64_in ((k : Int) - 1) ⟨by omega, by omega⟩]; omega
                    have hpl : (p : Int) < l.length := by have := HLT.out; omega
                    have cp1 := al.cell cp (fun h => h)
                    have hge : ∀ W, (binOp BinOp.geq 9 (.string pk) (.string rk)).run Tryz.prog W = .ok (.bool (!ltK pk rk)) W := fun W => run_geq_s _ _ _
                    have HAH : Hid (ltK ah rk = ltK pk rk) := by show _ = _; rw [hpk]
                    clear e0 cp hpk HPREV HAH0
                    cases hb3 : ltK pk rk with
                    | true =>
                      rw [hb3] at hge HAH
                      go_wp2_with (first | (go_at_call 40; go_must (refine (HKY.out _).mono ?_; rintro e w2 ⟨rfl, rfl⟩)) | (go_at_call 41; go_must (refine (HVL.out _).mono ?_; rintro e w2 ⟨rfl, rfl⟩)))
                      go_quiet (fail)
                      go_wp2
                      exact ⟨⟨k + 1, HLT.out, by go_num, HNX.out (by rw [HOK.out, HAH.out, hb4]; simp), (HKR.out.al _).drN _⟩, by simp only [intOf]; have := HLT.out; omega⟩
                    | false =>
                      rw [hb3] at hge HAH
                      go_wp2_with (first | (go_at_call 40; go_must (refine (HKY.out _).mono ?_; rintro e w2 ⟨rfl, rfl⟩)) | (go_at_call 41; go_must (refine (HVL.out _).mono ?_; rintro e w2 ⟨rfl, rfl⟩)))
                      go_quiet (fail)
                      go_wp2
                      go_ret
                      exact ⟨ret_bool (HBK.out (by rw [HOK.out, HAH.out, hb4]; simp)).symm, (HKW.out.al _).drN _⟩
            | false =>
              rcases HPREV.out with e0 | ⟨p, pk, e0, hpk, cp⟩
              · have hk0 : ¬ ((k : Int) > 0) := by omega
                have dk : decide (0 < k) = false := decide_eq_false (by omega)
                have HAH := hid (HAH0.out e0 rfl)
                clear e0 HPREV HAH0
                go_wp2_with (first | (go_at_call 40; go_must (refine (HKY.out _).mono ?_; rintro e w2 ⟨rfl, rfl⟩)) | (go_at_call 41; go_must (refine (HVL.out _).mono ?_; rintro e w2 ⟨rfl, rfl⟩)))
                go_quiet (fail)
                go_wp2
                exact ⟨⟨k + 1, HLT.out, by go_num, HNX.out (by rw [HOK.out, HAH.out]; simp), (HKR.out.al _).drN _⟩, by simp only [intOf]; have := HLT.out; omega⟩
              · have hk0 : (k : Int) > 0 := by omega
                have dk : decide (0 < k) = true := decide_eq_true (by omega)
                have hpw : IntKind.i64.wrap ((k : Int) - 1) = (p : Int) := by rw [IntWalk.i64_in ((k : Int) - 1) ⟨by omega, by omega⟩]; omega
                have hpl : (p : Int) < l.length := by have := HLT.out; omega
                have cp1 := al.cell cp (fun h => h)
                have hge : ∀ W, (binOp BinOp.geq 9 (.string pk) (.string rk)).run Tryz.prog W = .ok (.bool (!ltK pk rk)) W := fun W => run_geq_s _ _ _
                have HAH : Hid (ltK ah rk = ltK pk rk) := by show _ = _; rw [hpk]
                clear e0 cp hpk HPREV HAH0
                cases hb3 : ltK pk rk with
                | true =>
                  rw [hb3] at hge HAH
                  go_wp2_with (first | (go_at_call 40; go_must (refine (HKY.out _).mono ?_; rintro e w2 ⟨rfl, rfl⟩)) | (go_at_call 41; go_must (refine (HVL.out _).mono ?_; rintro e w2 ⟨rfl, rfl⟩)))
                  go_quiet (fail)
                  go_wp2
                  exact ⟨⟨k + 1, HLT.out, by go_num, HNX.out (by rw [HOK.out, HAH.out]; simp), (HKR.out.al _).drN _⟩, by simp only [intOf]; have := HLT.out; omega⟩
                | false =>
                  rw [hb3] at hge HAH
                  go_wp2_with (first | (go_at_call 40; go_must (refine (HKY.out _).mono ?_; rintro e w2 ⟨rfl, rfl⟩)) | (go_at_call 41; go_must (refine (HVL.out _).mono ?_; rintro e w2 ⟨rfl, rfl⟩)))
                  go_quiet (fail)
                  go_wp2
                  go_ret
                  exact ⟨ret_bool (HBK.out (by rw [HOK.out, HAH.out]; simp)).symm, (HKW.out.al _).drN _⟩
      · have e : k = l.length := by omega
        have HB : Hid (jb = true) := by show _ = _; rw [HJ.out, ← e]; exact hok
        have HKW := hid hkw
        have hnI : ¬ ((k : Int) < l.length) := by omega
        clear hkr hok hkw hxr e hlt2 hk x0
        go_wp2
        go_ret
        exact ⟨ret_bool HB.out.symm, HKW.out⟩

end Go.Proofs.YtkpaiaddikpdoaaGreatDoor
