import Derived.Test.YtpagenipflmlfaaGreatDoorM26

/- The calls of a work, from outside, with every answer. -/

namespace Go.Proofs.YtpagenipflmlfaaGreatDoor

open Go.RowKit Go.Shelf

def Gst.zero : Gst := ⟨0, 0, 0, [], [], 0, [], [], fun _ => []⟩

theorem gst_look {R : Rep} (n : Int) : look R.gst.works n = (look R.works n).map (fun y => (y.began, y.writes)) := by
  have e : R.gst.works = R.works.map (fun p => (p.1, (fun y : WkR => (y.began, y.writes)) p.2)) := rfl
  rw [e, look_map (fun y : WkR => (y.began, y.writes))]

/-- Begin -/
def Gst.opened (A : Gst) : Gst := { A with begun := A.begun + 1, works := A.works ++ [(A.begun + 1, (A.now, []))] }

def Gst.beginR (A : Gst) : Int × Int := if A.works.length < 8 then (A.begun + 1, 0) else (0, 3)

def Gst.beginS (A : Gst) : Gst := if A.works.length < 8 then A.opened else A

theorem begin_g {N : Nat} {w : World} {b : Nat} {A : Gst} {F : List Nat} (h : GSt N w b A F) (hN : N ≤ 100000000000) :
    Calls Tryz.prog 15 #[.pointer (some ⟨b, 0, none⟩)] w fun e w' => e = .returned (.tuple #[.int .i64 A.beginR.1, .int .i64 A.beginR.2]) ∧ After (N + 1) b A.beginS F w w' := by
  have hG := h
  obtain ⟨R, hi, rfl, rfl, rfl⟩ := h
  have hwl : R.gst.works.length = R.works.length := by simp [Rep.gst]
  by_cases hl : R.works.length < 8
  · have hb' : R.begun < 1000000000000000 := by have := hi.begunN; omega
    have hnone : look R.works (R.begun + 1) = none := look_none.2 (fun p hp e => by have := hi.good.numbers p hp; omega)
    have hcall : Calls Tryz.prog 15 #[.pointer (some ⟨R.sb, 0, none⟩)] w fun e w' => e = .returned (.tuple #[.int .i64 (R.begun + 1), .int .i64 0]) ∧ BeginPost R w w' := by
      cases hwm : R.wm with
      | none => exact begin_none R w hi.st hwm hi.good.begun.1 (by omega)
      | some b0 => exact begin_some R w hi.st b0 hwm hl hi.good.begun.1 (by omega) hnone
    have e1 : R.gst.beginR = (R.begun + 1, 0) := by unfold Gst.beginR; rw [hwl, if_pos hl]; rfl
    have e2 : R.gst.beginS = R.gst.opened := by unfold Gst.beginS; rw [hwl, if_pos hl]
    rw [e1, e2]
    refine hcall.mono ?_
    rintro e w' ⟨rfl, bb, m, wm, h1, h2, h3, h4, h5⟩
    have hbn := hi.begunN
    refine ⟨rfl, _, ⟨_, ⟨h1, hi.good.entered hl hb' bb m wm, ⟨hi.tied.rises, hi.tied.keys, hi.tied.filled⟩, hi.floor, by show R.begun + 1 ≤ _; omega, by have := hi.keysN; show R.keys.length ≤ _; omega, by have := hi.totN; show R.total ≤ _; omega, hi.pins, by have := hi.pinsN; show R.pinSum ≤ _; omega, ⟨hi.startN.1, by have := hi.startN.2; show R.started ≤ _; omega⟩, hi.cops, hi.cops4⟩, rfl, ?_, rfl⟩, h2, ?_⟩
    · simp [Rep.gst, Gst.opened]
    · intro k hk
      have hk' : k = R.sb ∨ k ∈ wm.toList ∨ k ∈ R.fp ∨ k = bb ∨ k = m := by
        simp only [Rep.fp, Rep.fpWorks, Rep.fpPast, List.mem_cons, List.mem_append, List.flatMap_append, List.flatMap_cons, List.flatMap_nil, List.append_nil, List.not_mem_nil, or_false] at hk ⊢
        rcases hk with h | ((h | h) | h | h) | h
        · exact .inl h
        · exact .inr (.inl h)
        · exact .inr (.inr (.inl (.inr (.inl (.inl (.inr h))))))
        · exact .inr (.inr (.inl (.inr (.inl (.inr h)))))
        · exact .inr (.inr (.inr h))
        · exact .inr (.inr (.inl (.inr (.inr h))))
      rcases hk' with rfl | h | h | rfl | rfl
      · exact .inl (by simp [Rep.fp])
      · rcases h3 with rfl | ⟨q, rfl, hq⟩
        · exact .inl (by simp only [Rep.fp, Rep.fpWorks, List.mem_cons, List.mem_append]; exact .inr (.inl (.inl (.inl h))))
        · have : k = q := by simp at h; omega
          exact .inr (by omega)
      · exact .inl h
      · exact .inr h4
      · exact .inr h5
  · have h8 : R.works.length = 8 := by have := hi.good.works8; omega
    have e1 : R.gst.beginR = (0, 3) := by unfold Gst.beginR; rw [hwl, if_neg hl]
    have e2 : R.gst.beginS = R.gst := by unfold Gst.beginS; rw [hwl, if_neg hl]
    rw [e1, e2]
    refine (begin_full R w hi.st h8).mono ?_
    rintro e w' ⟨rfl, hk⟩
    exact ⟨rfl, hG.after (by omega) hk⟩

/-- Put, Delete -/
def Gst.writeR (A : Gst) (n : Int) (key val : ByteArray) : Int :=
  match look A.works n with
  | none => 1
  | some x => if (keyB key && valB val) = true then (if ((look x.2 key).isSome || decide (x.2.length < 30)) = true then 0 else 3) else 2

def Gst.writeS (A : Gst) (n : Int) (key val : ByteArray) (gone : Bool) : Gst :=
  match look A.works n with
  | none => A
  | some x => if A.writeR n key val = 0 then { A with works := put A.works n (x.1, put x.2 key ⟨0, val, gone⟩) } else A

theorem write_g {N : Nat} {w : World} {b : Nat} {A : Gst} {F : List Nat} (n : Int) (key val : ByteArray) (gone : Bool) (h : GSt N w b A F) (hk : key.size ≤ maxLen) (hv : val.size ≤ maxLen) :
    Calls Tryz.prog 45 #[.pointer (some ⟨b, 0, none⟩), .int .i64 n, .string key, .agg #[.int .i64 0, .string val, .bool gone]] w fun e w' => e = .returned (.int .i64 (A.writeR n key val)) ∧ After N b (A.writeS n key val gone) F w w' := by
  have hG := h
  obtain ⟨R, hi, rfl, rfl, rfl⟩ := h
  cases hx : look R.works n with
  | none =>
    have e1 : R.gst.writeR n key val = 1 := by unfold Gst.writeR; rw [gst_look, hx]; rfl
    have e2 : R.gst.writeS n key val gone = R.gst := by unfold Gst.writeS; rw [gst_look, hx]; rfl
    rw [e1, e2]
    refine (write_none R n key val gone w hi.st hx).mono ?_
    rintro e w' ⟨rfl, h1⟩
    exact ⟨rfl, hG.after (Nat.le_refl _) h1⟩
  | some x =>
    have hlk : look R.gst.works n = some (x.began, x.writes) := by rw [gst_look, hx]; rfl
    cases hb : (keyB key && valB val) with
    | false =>
      have e1 : R.gst.writeR n key val = 2 := by unfold Gst.writeR; rw [hlk]; simp [hb]
      have e2 : R.gst.writeS n key val gone = R.gst := by unfold Gst.writeS; rw [hlk, e1]; simp
      rw [e1, e2]
      refine (write_text R n x key val gone w hi.st hx hk hv (Bool.and_eq_false_iff.1 hb)).mono ?_
      rintro e w' ⟨rfl, h1⟩
      exact ⟨rfl, hG.after (Nat.le_refl _) h1⟩
    | true =>
      obtain ⟨hkb, hvb⟩ := Bool.and_eq_true_iff.1 hb
      cases hf : ((look x.writes key).isSome || decide (x.writes.length < 30)) with
      | false =>
        have hf' := Bool.or_eq_false_iff.1 hf
        have hl : look x.writes key = none := by cases hl : look x.writes key with | none => rfl | some v => rw [hl] at hf'; simp at hf'
        have h30 := hi.good.writes30 _ (look_mem hx)
        have h30' : x.writes.length = 30 := by have := of_decide_eq_false hf'.2; simp only at h30; omega
        have e1 : R.gst.writeR n key val = 3 := by unfold Gst.writeR; rw [hlk]; simp only [hb, if_true, hf]; rfl
        have e2 : R.gst.writeS n key val gone = R.gst := by unfold Gst.writeS; rw [hlk, e1]; simp
        rw [e1, e2]
        refine (write_full R n x key val gone w hi.st hx hkb hvb hl h30').mono ?_
        rintro e w' ⟨rfl, h1⟩
        exact ⟨rfl, hG.after (Nat.le_refl _) h1⟩
      | true =>
        have hf' : (look x.writes key).isSome = true ∨ x.writes.length < 30 := by simpa [Bool.or_eq_true] using hf
        have e1 : R.gst.writeR n key val = 0 := by unfold Gst.writeR; rw [hlk]; simp only [hb, if_true, hf]
        have e2 : R.gst.writeS n key val gone = { R.gst with works := put R.gst.works n (x.began, put x.writes key ⟨0, val, gone⟩) } := by unfold Gst.writeS; rw [hlk, e1]; simp
        rw [e1, e2]
        refine (write_ok R n x key val gone w hi.st hx hkb hvb hf' (hi.good.writes30 _ (look_mem hx))).mono ?_
        rintro e w' ⟨rfl, h1, h2⟩
        refine ⟨rfl, _, ⟨_, ⟨h1, hi.good.written hx (works_nodup hi.st) (writes_nodup hi.st (look_mem hx)) hkb hvb hf', ⟨hi.tied.rises, hi.tied.keys, hi.tied.filled⟩, hi.floor, hi.begunN, hi.keysN, hi.totN, hi.pins, hi.pinsN, hi.startN, hi.cops, hi.cops4⟩, rfl, ?_, rfl⟩, h2, ?_⟩
        · simp only [Rep.gst]
          have := put_map (fun y : WkR => (y.began, y.writes)) R.works n { x with writes := put x.writes key ⟨0, val, gone⟩ }
          rw [← this]
        · rw [fp_written hx]
          exact fun k hk => .inl hk

set_option maxRecDepth 100000 in
set_option maxHeartbeats 400000 in
theorem put_g {N : Nat} {w : World} {b : Nat} {A : Gst} {F : List Nat} (n : Int) (key val : ByteArray) (h : GSt N w b A F) (hk : key.size ≤ maxLen) (hv : val.size ≤ maxLen) :
    Calls Tryz.prog 16 #[.pointer (some ⟨b, 0, none⟩), .int .i64 n, .string key, .string val] w fun e w' => e = .returned (.int .i64 (A.writeR n key val)) ∧ After N b (A.writeS n key val false) F w w' := by
  have HC := hid (write_g n key val false h hk hv)
  clear h hk hv
  go_enter Tryz.func16, Tryz.ntmps16
  go_wp2_with (go_at_call 45; go_must (refine (HC.out).mono ?_; rintro e w1 ⟨rfl, h1⟩))
  go_ret
  exact ⟨rfl, h1⟩

set_option maxRecDepth 100000 in
set_option maxHeartbeats 400000 in
theorem delete_g {N : Nat} {w : World} {b : Nat} {A : Gst} {F : List Nat} (n : Int) (key : ByteArray) (h : GSt N w b A F) (hk : key.size ≤ maxLen) :
    Calls Tryz.prog 20 #[.pointer (some ⟨b, 0, none⟩), .int .i64 n, .string key] w fun e w' => e = .returned (.int .i64 (A.writeR n key ByteArray.empty)) ∧ After N b (A.writeS n key ByteArray.empty true) F w w' := by
  have HC := hid (write_g n key ByteArray.empty true h hk (by decide +kernel))
  clear h hk
  go_enter Tryz.func20, Tryz.ntmps20
  go_wp2_with (go_at_call 45; go_must (refine (HC.out).mono ?_; rintro e w1 ⟨rfl, h1⟩))
  go_ret
  exact ⟨rfl, h1⟩

/-- a work is over -/
def Gst.ended (A : Gst) (n : Int) : Gst := { A with works := del A.works n }

theorem GInv.del {N : Nat} {w w' : World} {R : Rep} {n : Int} (h : GInv N w R) (hs : StoreAt w' { R with works := del R.works n }) : GInv N w' { R with works := del R.works n } :=
  ⟨hs, h.good.del n, ⟨h.tied.rises, h.tied.keys, h.tied.filled⟩, h.floor, h.begunN, h.keysN, h.totN, h.pins, h.pinsN, h.startN, h.cops, h.cops4⟩

theorem gst_del (R : Rep) (n : Int) : Rep.gst { R with works := del R.works n } = R.gst.ended n := by
  simp only [Rep.gst, Gst.ended]
  have := del_map (fun y : WkR => (y.began, y.writes)) R.works n
  rw [← this]

/-- Abort -/
def Gst.abortR (A : Gst) (n : Int) : Int := if (look A.works n).isSome then 0 else 1

def Gst.abortS (A : Gst) (n : Int) : Gst := if (look A.works n).isSome then A.ended n else A

theorem abort_g {N : Nat} {w : World} {b : Nat} {A : Gst} {F : List Nat} (n : Int) (h : GSt N w b A F) :
    Calls Tryz.prog 31 #[.pointer (some ⟨b, 0, none⟩), .int .i64 n] w fun e w' => e = .returned (.int .i64 (A.abortR n)) ∧ After N b (A.abortS n) F w w' := by
  have hG := h
  obtain ⟨R, hi, rfl, rfl, rfl⟩ := h
  unfold Gst.abortR Gst.abortS
  rw [gst_look]
  cases hx : look R.works n with
  | none =>
    refine (abort_none R n w hi.st hx).mono ?_
    rintro e w' ⟨rfl, h1⟩
    exact ⟨rfl, hG.after (Nat.le_refl _) h1⟩
  | some x =>
    refine (abort_some R n x w hi.st hx).mono ?_
    rintro e w' ⟨rfl, h1, h2⟩
    exact ⟨rfl, _, ⟨_, hi.del h1, rfl, gst_del R n, rfl⟩, h2, fun k hk => .inl (fp_del.subset hk)⟩

/-- Commit -/
def clashB (A : Gst) (bg : Int) (ws : List (ByteArray × Ver)) : Bool := ws.any (fun p => decide (bg < lastOf (A.vers p.1)))

def Gst.became (A : Gst) (n : Int) (ws : List (ByteArray × Ver)) : Gst :=
  { A with now := A.now + 1, works := del A.works n, keys := insAll A.keys (ws.map (·.1)), vers := fun k => if (look ws k).isSome then A.vers k ++ [verOf ws (A.now + 1) k] else A.vers k }

def Gst.commitR (A : Gst) (n : Int) : Int × Int :=
  match look A.works n with
  | none => (0, 1)
  | some x => if x.2 = [] then (x.1, 0) else if A.now < 1000000000 then (if clashB A x.1 x.2 = true then (0, 4) else (A.now + 1, 0)) else (0, 3)

def Gst.commitS (A : Gst) (n : Int) : Gst :=
  match look A.works n with
  | none => A
  | some x => if x.2 = [] then A.ended n else if A.now < 1000000000 then (if clashB A x.1 x.2 = true then A.ended n else A.became n x.2) else A

theorem commit_g {N : Nat} {w : World} {b : Nat} {A : Gst} {F : List Nat} (n : Int) (h : GSt N w b A F) (hN : N ≤ 100000000000) :
    Calls Tryz.prog 17 #[.pointer (some ⟨b, 0, none⟩), .int .i64 n] w fun e w' => e = .returned (.tuple #[.int .i64 (A.commitR n).1, .int .i64 (A.commitR n).2]) ∧ After (N + 30) b (A.commitS n) F w w' := by
  have hG := h
  obtain ⟨R, hi, rfl, rfl, rfl⟩ := h
  unfold Gst.commitR Gst.commitS
  rw [gst_look]
  cases hx : look R.works n with
  | none =>
    refine (commit_none R n w hi.st hx).mono ?_
    rintro e w' ⟨rfl, h1⟩
    exact ⟨rfl, hG.after (by omega) h1⟩
  | some x =>
    simp only [Option.map_some]
    have hxm := look_mem hx
    by_cases hw : x.writes = []
    · rw [if_pos hw, if_pos hw]
      refine (commit_empty R n x w hi.st hx hw).mono ?_
      rintro e w' ⟨rfl, h1, h2⟩
      exact ⟨rfl, _, ⟨_, (hi.del h1).more (by omega), rfl, gst_del R n, rfl⟩, h2, fun k hk => .inl (fp_del.subset hk)⟩
    · rw [if_neg hw, if_neg hw]
      by_cases hnow : R.gst.now < 1000000000
      · have hnow' : R.now < 1000000000 := hnow
        have hkn := hi.keysN
        have htn := hi.totN
        rw [if_pos hnow, if_pos hnow]
        refine (commit_some R n x w hi.st hi.good hi.tied hx hw hnow' (by omega)).mono ?_
        rintro e w' ⟨ks, hr, hp, hc⟩
        have hmem : ∀ k, k ∈ ks ↔ k ∈ x.writes.map (·.1) := fun k => hp.mem_iff
        have h30 : ks.length ≤ 30 := by have h1 := hp.length_eq; have h2 := hi.good.writes30 _ hxm; simp at h1 h2; omega
        have hksK : ∀ k ∈ ks, keyB k = true ∧ valB ((look x.writes k).getD Ver.zero).value = true := fun k hk => by
          have hk' := (hmem k).1 hk
          obtain ⟨v, hv⟩ := Option.isSome_iff_exists.1 ((look_isSome x.writes k).2 hk')
          obtain ⟨q1, q2, _⟩ := hi.good.wkeys _ hxm _ (look_mem hv)
          exact ⟨q1, by rw [hv]; exact q2⟩
        rcases hc with ⟨⟨k, hk, hlt⟩, rfl, R0, h1, h2, h3, h4, h5⟩ | ⟨hle, rfl, Rn, h1, h2, h3, h4⟩
        · have hcl : clashB R.gst x.began x.writes = true := by
            unfold clashB
            rw [List.any_eq_true]
            obtain ⟨q, hq, e⟩ := List.mem_map.1 ((hmem k).1 hk)
            exact ⟨q, hq, by rw [e]; exact decide_eq_true hlt⟩
          rw [if_pos hcl, if_pos hcl]
          have hs := h2.same
          have e1 : R0.works = Go.Proofs.YtpagenipflmlfaaGreatDoor.del R.works n := by rw [hs]
          have e3 : versOf R0.hist = versOf R.hist := by
            funext k
            rw [h2.vers]
            simp [memB]
          have e4 : R0.keys = R.keys := rises_ext h2.tied.rises hi.tied.rises (fun k => by
            rw [← memB_iff, ← memB_iff, h2.tied.keys, hi.tied.keys]
            have hh : ∀ (R1 : Rep), Tied R1 → ((look R1.hist k).isSome = true ↔ versOf R1.hist k ≠ []) := fun R1 t => by
              constructor
              · intro hso
                exact vers_ne t ((memB_iff _ _).1 (by rw [t.keys]; exact hso))
              · intro hne
                rw [← t.keys]
                exact (memB_iff _ _).2 (keys_of_vers t hne)
            rw [hh R0 h2.tied, hh R hi.tied, e3])
          have et : R0.total = R.total := by unfold Rep.total; rw [e4, e3]
          have hg := (hi.good.del n).grew h2 (hist_nodup h1.past) R.now ⟨Int.le_refl _, hi.good.now.2⟩ (fun k hk => (by cases hk)) (fun k hk => (by cases hk))
          have en : { R0 with now := R.now } = R0 := by
            have hn' : R0.now = R.now := by rw [hs]
            rw [← hn']
          rw [en] at hg
          refine ⟨rfl, _, ⟨R0, ⟨h1, hg, h2.tied, ?_, ?_, by rw [e4]; omega, by rw [et]; omega, ?_, ?_, ?_, ?_, ?_⟩, ?_, ?_, rfl⟩, h3, h4⟩
          · rw [hs]; exact hi.floor
          · rw [hs]; have := hi.begunN; show R.begun ≤ _; omega
          · rw [hs]; exact hi.pins
          · have : R0.pinSum = R.pinSum := by unfold Rep.pinSum; rw [hs]
            rw [this]; have := hi.pinsN; omega
          · rw [hs]; exact ⟨hi.startN.1, by have := hi.startN.2; show R.started ≤ _; omega⟩
          · rw [hs]; exact hi.cops
          · rw [hs]; exact hi.cops4
          · rw [hs]
          · rw [← gst_del]
            simp only [Rep.gst, e1, e3, e4]
            rw [hs]
        · have hcl : clashB R.gst x.began x.writes = false := by
            rw [Bool.eq_false_iff]
            intro hc
            unfold clashB at hc
            rw [List.any_eq_true] at hc
            obtain ⟨q, hq, e⟩ := hc
            have h5 := hle q.1 ((hmem q.1).2 (List.mem_map.2 ⟨q, hq, rfl⟩))
            have h6 : x.began < lastOf (versOf R.hist q.1) := of_decide_eq_true e
            omega
          rw [if_neg (by rw [hcl]; simp), if_neg (by rw [hcl]; simp)]
          have hs := h2.same
          have ew : Rn.works = R.works := by rw [hs]
          have htg := total_grew hi.tied h2
          have hg := hi.good.grew h2 (hist_nodup h1.past) (R.now + 1) ⟨by omega, by omega⟩ (fun k hk => (hksK k hk).1) (fun k hk => ⟨(hksK k hk).2, rfl, by omega⟩)
          have hg2 := hg.del n
          have e3 : versOf Rn.hist = fun k => if (look x.writes k).isSome then versOf R.hist k ++ [verOf x.writes (R.now + 1) k] else versOf R.hist k := by
            funext k
            rw [h2.vers, memB_perm hp]
          have e4 : Rn.keys = insAll R.keys (x.writes.map (·.1)) := rises_ext h2.tied.rises (insAll_rises _ hi.tied.rises) (fun k => by
            rw [insAll_mem]
            constructor
            · intro hk
              rcases grew_keys hi.tied h2 hk with h | h
              · exact .inr ((hmem k).1 h)
              · exact .inl h
            · intro hk
              refine keys_of_vers h2.tied ?_
              rw [e3]
              simp only
              rcases hk with hk | hk
              · have := vers_ne hi.tied hk
                split
                · simp
                · exact this
              · rw [if_pos ((look_isSome _ _).2 hk)]
                simp)
          have hkl : Rn.keys.length ≤ R.keys.length + 30 := by
            rw [e4]
            have h1' := insAll_length (x.writes.map (·.1)) R.keys
            have h2' := hi.good.writes30 _ hxm
            simp at h1' h2'
            omega
          refine ⟨rfl, _, ⟨_, ⟨h1, ?_, ⟨h2.tied.rises, h2.tied.keys, h2.tied.filled⟩, ?_, ?_, ?_, ?_, ?_, ?_, ?_, ?_, ?_⟩, ?_, ?_, rfl⟩, h3, ?_⟩
          · rw [← ew]; exact hg2
          · show 0 ≤ Rn.floor
            rw [hs]; exact hi.floor
          · show Rn.begun ≤ _
            rw [hs]; have := hi.begunN; show R.begun ≤ _; omega
          · show Rn.keys.length ≤ _
            omega
          · show Rn.total ≤ _
            omega
          · show ∀ p ∈ Rn.pins, _
            rw [hs]; exact hi.pins
          · show Rn.pinSum ≤ _
            have : Rn.pinSum = R.pinSum := by unfold Rep.pinSum; rw [hs]
            rw [this]; have := hi.pinsN; omega
          · show 0 ≤ Rn.started ∧ Rn.started ≤ _
            rw [hs]; exact ⟨hi.startN.1, by have := hi.startN.2; show R.started ≤ _; omega⟩
          · show ∀ p ∈ Rn.copyings, _ ∧ p.1 ≤ Rn.started ∧ _
            rw [hs]; exact hi.cops
          · show Rn.copyings.length ≤ 4
            rw [hs]; exact hi.cops4
          · show Rn.sb = R.sb
            rw [hs]
          · have e5 : Rn.floor = R.floor ∧ Rn.begun = R.begun ∧ Rn.pins = R.pins ∧ Rn.started = R.started ∧ Rn.copyings = R.copyings := by rw [hs]; exact ⟨rfl, rfl, rfl, rfl, rfl⟩
            simp only [Rep.gst, Gst.became, e3, e4, e5.1, e5.2.1, e5.2.2.1, e5.2.2.2.1, e5.2.2.2.2]
            have := del_map (fun y : WkR => (y.began, y.writes)) R.works n
            rw [← this]
          · intro k hk
            have hk' : k ∈ Rep.fp { Rn with works := Go.Proofs.YtpagenipflmlfaaGreatDoor.del Rn.works n } := by rw [ew]; exact hk
            exact h4 k (fp_del.subset hk')
      · have hnow' : R.now = 1000000000 := by have := hi.good.now.2; have h3 : ¬ R.now < 1000000000 := hnow; omega
        rw [if_neg hnow, if_neg hnow]
        refine (commit_full R n x w hi.st hx hw hnow').mono ?_
        rintro e w' ⟨rfl, h1⟩
        exact ⟨rfl, hG.after (by omega) h1⟩

end Go.Proofs.YtpagenipflmlfaaGreatDoor

/- Scan, Pin, Unpin, Sweep, Look, from outside, with every answer. -/

namespace Go.Proofs.YtpagenipflmlfaaGreatDoor

open Go.RowKit Go.Shelf

/-- what a work sees from a key on -/
def Gst.seen (A : Gst) (bg : Int) (ws : List (ByteArray × Ver)) (from_ : ByteArray) : List (ByteArray × ByteArray) :=
  ((insAll A.keys (ws.map (·.1))).filter (fun k => !ltK k from_)).filterMap (pairOf ws A.vers bg)

def Gst.scanR (A : Gst) (n : Int) (from_ : ByteArray) (most : Int) : List (ByteArray × ByteArray) × Int :=
  match look A.works n with
  | none => ([], 1)
  | some x => if from_.size ≤ 10 then (takeM most (A.seen x.1 x.2 from_), 0) else ([], 2)

theorem scan_g {N : Nat} {w : World} {b : Nat} {A : Gst} {F : List Nat} (n : Int) (from_ : ByteArray) (most : Int) (h : GSt N w b A F) (hN : N ≤ 100000000000) (hm1 : -9223372036854775808 ≤ most) (hm2 : most ≤ 9223372036854775807) :
    Calls Tryz.prog 30 #[.pointer (some ⟨b, 0, none⟩), .int .i64 n, .string from_, .int .i64 most] w fun e w' => ∃ v, e = .returned (.tuple #[v, .int .i64 (A.scanR n from_ most).2]) ∧
      Row w' 89 2 v (A.scanR n from_ most).1.length ((A.scanR n from_ most).1.flatMap pairCells) ∧ (∀ g, v.ownBlock = some g → w.heap.size ≤ g) ∧ GSt N w' b A F ∧ Keeps (fun _ => False) w w' := by
  have hG := h
  obtain ⟨R, hi, rfl, rfl, rfl⟩ := h
  unfold Gst.scanR
  rw [gst_look]
  cases hx : look R.works n with
  | none =>
    refine (scan_none R n from_ most w hi.st hx).mono ?_
    rintro e w' ⟨rfl, h1⟩
    exact ⟨_, rfl, Row.nil _ _ _, fun g hg => by simp [Value.ownBlock] at hg, hG.kept h1 (fun _ _ h => h), h1⟩
  | some x =>
    simp only [Option.map_some]
    by_cases hs : from_.size ≤ 10
    · rw [if_pos hs]
      have hkn := hi.keysN
      refine (scan_from R n x from_ most w hi.st hi.good hi.tied hx (by omega) hs hm1 hm2).mono ?_
      rintro e w' ⟨v, xs, kw, rfl, hkw, hp, hM, hrow, hown, hk⟩
      have e1 : xs = (insAll R.keys (x.writes.map (·.1))).filter (fun k => !ltK k from_) := by
        refine rises_ext hM.come ((insAll_rises _ hi.tied.rises).sublist List.filter_sublist) (fun k => ?_)
        have := hM.all k
        simp only [List.not_mem_nil, or_false] at this
        rw [this, drop_below hi.tied.rises, drop_below hkw, List.mem_filter, List.mem_filter, List.mem_filter, insAll_mem, hp.mem_iff]
        constructor
        · rintro (h | h)
          · exact ⟨.inl h.1, h.2⟩
          · exact ⟨.inr h.1, h.2⟩
        · rintro ⟨h | h, h2⟩
          · exact .inl ⟨h, h2⟩
          · exact .inr ⟨h, h2⟩
      rw [e1] at hrow
      exact ⟨v, rfl, hrow, hown, hG.kept hk (fun _ _ h => h), hk⟩
    · rw [if_neg hs]
      refine (scan_text R n x from_ most w hi.st hx (by omega)).mono ?_
      rintro e w' ⟨rfl, h1⟩
      exact ⟨_, rfl, Row.nil _ _ _, fun g hg => by simp [Value.ownBlock] at hg, hG.kept h1 (fun _ _ h => h), h1⟩

theorem sum_put : ∀ (l : List (Int × Int)) (s v : Int), ((put l s v).map (·.2)).sum = (l.map (·.2)).sum - (look l s).getD 0 + v
  | [], s, v => by simp [put, look]
  | (a, x) :: r, s, v => by
    unfold put look
    by_cases e : a = s
    · rw [if_pos e, if_pos e]
      simp
      omega
    · rw [if_neg e, if_neg e]
      have := sum_put r s v
      simp only [List.map_cons, List.sum_cons, this]
      omega

theorem look_le_sum : ∀ {l : List (Int × Int)} (s : Int), (∀ p ∈ l, 1 ≤ p.2 ∧ 0 ≤ p.1) → 0 ≤ (look l s).getD 0 ∧ (look l s).getD 0 ≤ (l.map (·.2)).sum
  | [], s, _ => by simp [look]
  | (a, x) :: r, s, h => by
    have h1 := h (a, x) (by simp)
    have h2 := look_le_sum (l := r) s (fun p hp => h p (by simp [hp]))
    unfold look
    simp only at h1
    by_cases e : a = s
    · rw [if_pos e]
      simp only [Option.getD_some, List.map_cons, List.sum_cons]
      omega
    · rw [if_neg e]
      simp only [List.map_cons, List.sum_cons]
      omega

theorem GInv.pinned {N N' : Nat} {w w' : World} {R : Rep} {pins : List (Int × Int)} {pm : Option Nat} (h : GInv N w R) (hN : N ≤ N') (hs : StoreAt w' { R with pm := pm, pins := pins }) (hp : ∀ p ∈ pins, 1 ≤ p.2 ∧ 0 ≤ p.1) (hpN : (pins.map (·.2)).sum ≤ N') : GInv N' w' { R with pm := pm, pins := pins } :=
  ⟨hs, ⟨h.good.now, h.good.begun, h.good.works8, h.good.numbers, h.good.began, h.good.writes30, h.good.wkeys, h.good.rising, h.good.states, h.good.filled, h.good.hkeys, h.good.hvals, h.good.sorted, h.good.keys⟩, ⟨h.tied.rises, h.tied.keys, h.tied.filled⟩, h.floor,
    by have := h.begunN; show R.begun ≤ _; omega, by have := h.keysN; show R.keys.length ≤ _; omega, by have := h.totN; show R.total ≤ _; omega, hp, hpN, ⟨h.startN.1, by have := h.startN.2; show R.started ≤ _; omega⟩, h.cops, h.cops4⟩

theorem fp_pins {R : Rep} {pm : Option Nat} {pins : List (Int × Int)} {n : Nat} (h : pm = R.pm ∨ ∃ q, pm = some q ∧ n ≤ q) : ∀ k ∈ Rep.fp { R with pm := pm, pins := pins }, k ∈ R.fp ∨ n ≤ k := fun k hk => by
  rcases h with rfl | ⟨q, rfl, hq⟩
  · exact .inl hk
  · rw [(fp_split _).mem_iff] at hk
    rw [(fp_split R).mem_iff]
    simp only [pcOf, List.mem_cons, List.mem_append, Option.toList_some] at hk ⊢
    rcases hk with h | (h | h) | h
    · exact .inl (.inl h)
    · right
      simp at h
      omega
    · exact .inl (.inr (.inl (.inr h)))
    · exact .inl (.inr (.inr h))

/-- Pin -/
def Gst.hasB (A : Gst) (s : Int) : Bool := decide (A.floor ≤ s) && decide (s ≤ A.now)

def Gst.pinR (A : Gst) (s : Int) : Int := if A.hasB s = true then 0 else 5

def Gst.pinS (A : Gst) (s : Int) : Gst := if A.hasB s = true then { A with pins := put A.pins s ((look A.pins s).getD 0 + 1) } else A

theorem mem_putI {l : List (Int × Int)} {s v : Int} {p : Int × Int} (hn : (l.map (·.1)).Nodup) (h : p ∈ put l s v) : p = (s, v) ∨ p ∈ l := by
  rcases mem_put hn h with h | ⟨h, _⟩
  · exact .inl h
  · exact .inr h

theorem pin_g {N : Nat} {w : World} {b : Nat} {A : Gst} {F : List Nat} (s : Int) (h : GSt N w b A F) (hN : N ≤ 100000000000) :
    Calls Tryz.prog 7 #[.pointer (some ⟨b, 0, none⟩), .int .i64 s] w fun e w' => e = .returned (.int .i64 (A.pinR s)) ∧ After (N + 1) b (A.pinS s) F w w' := by
  have hG := h
  obtain ⟨R, hi, rfl, rfl, rfl⟩ := h
  have hhb : R.gst.hasB s = (decide (R.floor ≤ s) && decide (s ≤ R.now)) := rfl
  unfold Gst.pinR Gst.pinS
  cases hb : (decide (R.floor ≤ s) && decide (s ≤ R.now)) with
  | false =>
    rw [hhb, hb]
    refine (pin_bad R s w hi.st hb).mono ?_
    rintro e w' ⟨rfl, h1⟩
    exact ⟨rfl, hG.after (by omega) h1⟩
  | true =>
    rw [hhb, hb]
    simp only [if_true]
    have hlk := look_le_sum s hi.pins
    have hps := hi.pinsN
    unfold Rep.pinSum at hps
    have hs0 : 0 ≤ s := by have h1 := (Bool.and_eq_true_iff.1 hb).1; have h2 := of_decide_eq_true h1; have := hi.floor; omega
    have hcall : Calls Tryz.prog 7 #[.pointer (some ⟨R.sb, 0, none⟩), .int .i64 s] w fun e w' => e = .returned (.int .i64 0) ∧ PinPost R (put R.pins s ((look R.pins s).getD 0 + 1)) w w' := by
      cases hpm : R.pm with
      | some b0 => exact pin_some R s w hi.st b0 hpm hb hlk.1 (by omega)
      | none =>
        refine (pin_new R s w hi.st hpm hb).mono ?_
        rintro e w' ⟨rfl, h1, h2⟩
        refine ⟨rfl, ?_⟩
        rw [h1]
        exact h2
    refine hcall.mono ?_
    rintro e w' ⟨rfl, pm, h1, h2, h3⟩
    have hpn : ∀ p ∈ put R.pins s ((look R.pins s).getD 0 + 1), 1 ≤ p.2 ∧ 0 ≤ p.1 := fun p hp => by
      rcases mem_putI (pins_nodup hi.st) hp with rfl | h
      · exact ⟨by show 1 ≤ (look R.pins s).getD 0 + 1; omega, hs0⟩
      · exact hi.pins p h
    exact ⟨rfl, _, ⟨_, hi.pinned (by omega) h1 hpn (by rw [sum_put]; omega), rfl, rfl, rfl⟩, h2, fp_pins h3⟩

/-- Look -/
theorem look_g {N : Nat} {w : World} {b : Nat} {A : Gst} {F : List Nat} (h : GSt N w b A F) (hN : N ≤ 100000000000) :
    Calls Tryz.prog 6 #[.pointer (some ⟨b, 0, none⟩)] w fun e w' => e = .returned (.agg #[.int .i64 A.now, .int .i64 A.floor, .int .i64 A.works.length, .int .i64 A.pinSum, .int .i64 A.total, .int .i64 A.copyings.length]) ∧ GSt N w' b A F ∧ Keeps (fun _ => False) w w' := by
  have hG := h
  obtain ⟨R, hi, rfl, rfl, rfl⟩ := h
  have hps := hi.pinsN
  have htn := hi.totN
  refine (look_core R w hi.st (· = R.pinSum) (· = (R.total : Int)) (fun W hk => ?_) (fun W hk => ?_)).mono ?_
  · refine (allPins_any R W (hi.st.kept hk (fun _ _ h => h)) (fun p hp => by have := (hi.pins p hp).1; omega) (by omega)).mono ?_
    rintro e w' ⟨rfl, hk⟩
    exact ⟨_, rfl, rfl, hk⟩
  · refine (count_all R W (hi.st.kept hk (fun _ _ h => h)) hi.tied (by omega)).mono ?_
    rintro e w' ⟨rfl, hk⟩
    exact ⟨_, rfl, rfl, hk⟩
  · rintro e w' ⟨⟨p, c, rfl, rfl, rfl⟩, hk⟩
    have e1 : R.gst.works.length = R.works.length := by simp [Rep.gst]
    rw [e1]
    exact ⟨rfl, hG.kept hk (fun _ _ h => h), hk⟩

/-- Sweep -/
def leastOf (now : Int) (hs : List Int) : Int := hs.foldl (fun a b => if b < a then b else a) now

theorem leastOf_is : ∀ (hs : List Int) (now : Int), IsLeast now hs (leastOf now hs)
  | [], now => ⟨Int.le_refl _, fun b hb => (by cases hb), .inl rfl⟩
  | b :: hs, now => by
    obtain ⟨m, hm⟩ : ∃ m, m = if b < now then b else now := ⟨_, rfl⟩
    have h := leastOf_is hs m
    have e : leastOf now (b :: hs) = leastOf m hs := by rw [hm]; rfl
    rw [e]
    obtain ⟨h1, h2, h3⟩ := h
    generalize leastOf m hs = M at *
    refine ⟨by split at hm <;> omega, fun x hx => ?_, ?_⟩
    · rcases List.mem_cons.1 hx with rfl | hx
      · split at hm <;> omega
      · exact h2 x hx
    · rcases h3 with h3 | h3
      · split at hm
        · exact .inr (by rw [h3, hm]; simp)
        · exact .inl (by rw [h3, hm])
      · exact .inr (List.mem_cons_of_mem _ h3)

theorem least_unique {now : Int} {hs : List Int} {a b : Int} (h : IsLeast now hs a) (k : IsLeast now hs b) : a = b := by
  obtain ⟨h1, h2, h3⟩ := h
  obtain ⟨k1, k2, k3⟩ := k
  have ab : a ≤ b := by rcases k3 with rfl | k3; exact h1; exact h2 b k3
  have ba : b ≤ a := by rcases h3 with rfl | h3; exact k1; exact k2 a h3
  omega

def Gst.least (A : Gst) : Int := leastOf A.now A.held

def Gst.sweepR (A : Gst) : Int := ((A.keys.map (fun k => needN (A.vers k) A.least)).sum : Nat)

def Gst.sweepS (A : Gst) : Gst := { A with floor := A.least, keys := A.keys.filter (fun k => decide (needN (A.vers k) A.least < (A.vers k).length)), vers := fun k => (A.vers k).drop (needN (A.vers k) A.least) }

theorem sweep_g {N : Nat} {w : World} {b : Nat} {A : Gst} {F : List Nat} (h : GSt N w b A F) (hN : N ≤ 100000000000) :
    Calls Tryz.prog 34 #[.pointer (some ⟨b, 0, none⟩)] w fun e w' => e = .returned (.int .i64 A.sweepR) ∧ After N b A.sweepS F w w' := by
  obtain ⟨R, hi, rfl, rfl, rfl⟩ := h
  have hkn := hi.keysN
  have htn := hi.totN
  refine (sweep_any R w hi.st hi.good hi.tied (by omega) (by omega)).mono ?_
  rintro e w' ⟨L, rfl, hL, hist, vl, h1, h2, h3, h4, h5, h6⟩
  have hLe : R.gst.least = L := by
    have h7 := leastOf_is R.gst.held R.gst.now
    rw [gst_held] at h7
    unfold Gst.least
    rw [gst_held]
    exact least_unique h7 hL
  have hL0 : 0 ≤ L := by
    rcases hL.2.2 with rfl | hm
    · exact hi.good.now.1
    · unfold Rep.held at hm
      rcases List.mem_append.1 hm with hm | hm
      · rcases List.mem_append.1 hm with hm | hm
        · obtain ⟨p, hp, rfl⟩ := List.mem_map.1 hm
          exact (hi.good.began p hp).1
        · obtain ⟨p, hp, rfl⟩ := List.mem_map.1 hm
          exact (hi.pins p hp).2
      · obtain ⟨p, hp, rfl⟩ := List.mem_map.1 hm
        have := (hi.cops p hp).2.2
        unfold Cop.need
        split
        · exact this.to_.1
        · exact this.from_.1
  have hv : ∀ k, versOf hist k = (versOf R.hist k).drop (needN (versOf R.hist k) L) := fun k => by
    rw [h2 k]
    cases hm : memB R.keys k with
    | true => simp
    | false =>
      have e : versOf R.hist k = [] := by
        apply Classical.byContradiction
        intro hne
        have := (memB_iff _ _).2 (keys_of_vers hi.tied hne)
        rw [hm] at this
        cases this
      simp [e]
  have hnd := hist_nodup h1.past
  have hpv : ∀ p ∈ hist, p.2.vers = (versOf R.hist p.1).drop (needN (versOf R.hist p.1) L) := fun p hp => by
    rw [← hv]
    exact (vers_of_mem hnd hp).2.symm
  have hmem : ∀ k, k ∈ leftL R L R.keys.length ↔ (look hist k).isSome = true := fun k => by
    unfold leftL
    rw [List.take_length, List.mem_filter]
    constructor
    · rintro ⟨_, hs⟩
      have hs' : needN (versOf R.hist k) L < (versOf R.hist k).length := by simpa [staysB] using hs
      cases hl : look hist k with
      | some x => rfl
      | none =>
        have e := hv k
        have e0 : versOf hist k = [] := by unfold versOf; rw [hl]; rfl
        rw [e0] at e
        have := congrArg List.length e
        simp at this
        omega
    · intro hs
      obtain ⟨x, hx⟩ := Option.isSome_iff_exists.1 hs
      have hx0 := h3 k hs
      refine ⟨(memB_iff _ _).1 (by rw [hi.tied.keys]; exact hx0), ?_⟩
      have hf4 := h4 _ (look_mem hx)
      have e := hpv _ (look_mem hx)
      simp only at hf4 e
      have hlen : 0 < x.vers.length := List.length_pos_iff.2 hf4
      rw [e, List.length_drop] at hlen
      simp only [staysB, decide_eq_true_eq]
      omega
  have hsub : (leftL R L R.keys.length).Sublist R.keys := by
    unfold leftL
    rw [List.take_length]
    exact List.filter_sublist
  have hbase := fun k => base_vers hi.good k
  have ek : leftL R L R.keys.length = R.gst.sweepS.keys := by
    unfold leftL Gst.sweepS
    rw [List.take_length, hLe]
    rfl
  have ev : versOf hist = R.gst.sweepS.vers := by
    funext k
    rw [hv k]
    unfold Gst.sweepS
    rw [hLe]
    rfl
  have er : R.gst.sweepR = (thrownN R L R.keys.length : Nat) := by
    unfold Gst.sweepR thrownN
    rw [List.take_length, hLe]
    rfl
  have htot : (((leftL R L R.keys.length).map (fun k => (versOf hist k).length)).sum) ≤ R.total := by
    have q1 := sum_support (f := fun k => (versOf hist k).length) (l := leftL R L R.keys.length) (l0 := R.keys) ((rises_nodup hi.tied.rises).sublist hsub) (fun k hk _ => hsub.subset hk)
    have q2 := sum_map_le (fun k => (versOf hist k).length) (fun k => (versOf R.hist k).length) (fun k => by rw [hv k, List.length_drop]; omega) R.keys
    unfold Rep.total
    omega
  refine ⟨by rw [er], _, ⟨_, ⟨h1, ?_, ?_, hL0, hi.begunN, ?_, ?_, hi.pins, hi.pinsN, hi.startN, hi.cops, hi.cops4⟩, rfl, ?_, rfl⟩, h5, h6⟩
  · refine ⟨hi.good.now, hi.good.begun, hi.good.works8, hi.good.numbers, hi.good.began, hi.good.writes30, hi.good.wkeys, fun p hp => ?_, fun p hp v hvv => ?_, h4, fun p hp => ?_, fun p hp v hvv => ?_, hi.good.sorted.sublist hsub, fun k => ?_⟩
    · rw [hpv p hp]
      exact (hbase p.1).1.sublist (List.drop_sublist _ _)
    · rw [hpv p hp] at hvv
      exact ((hbase p.1).2.1 v ((List.drop_sublist _ _).subset hvv)).1
    · refine (hbase p.1).2.2 (fun e => ?_)
      have e1 := hpv p hp
      rw [e] at e1
      exact h4 p hp (by simpa using e1)
    · rw [hpv p hp] at hvv
      exact ((hbase p.1).2.1 v ((List.drop_sublist _ _).subset hvv)).2
    · rw [hmem k]
      exact Option.isSome_iff_exists
  · refine ⟨hi.tied.rises.sublist hsub, fun k => ?_, h4⟩
    rw [Bool.eq_iff_iff, memB_iff]
    exact hmem k
  · have := hsub.length_le
    show (leftL R L R.keys.length).length ≤ N
    omega
  · show ((leftL R L R.keys.length).map (fun k => (versOf hist k).length)).sum ≤ N
    omega
  · show (⟨R.now, L, R.begun, R.works.map (fun p => (p.1, (p.2.began, p.2.writes))), R.pins, R.started, R.copyings, leftL R L R.keys.length, versOf hist⟩ : Gst) = R.gst.sweepS
    rw [ek, ev]
    unfold Gst.sweepS
    rw [hLe]
    rfl

end Go.Proofs.YtpagenipflmlfaaGreatDoor

/- Start and Next, from outside. -/

namespace Go.Proofs.YtpagenipflmlfaaGreatDoor

open Go.RowKit Go.Shelf

theorem GInv.coped {N N' : Nat} {w w' : World} {R : Rep} {cops : List (Int × Cop)} {cm : Option Nat} {st : Int} (h : GInv N w R) (hN : N ≤ N') (hs : StoreAt w' { R with cm := cm, started := st, copyings := cops }) (h0 : R.started ≤ st) (h1 : st ≤ N') (hc : ∀ p ∈ cops, 1 ≤ p.1 ∧ p.1 ≤ st ∧ p.2.Ok) (h4 : cops.length ≤ 4) : GInv N' w' { R with cm := cm, started := st, copyings := cops } :=
  ⟨hs, ⟨h.good.now, h.good.begun, h.good.works8, h.good.numbers, h.good.began, h.good.writes30, h.good.wkeys, h.good.rising, h.good.states, h.good.filled, h.good.hkeys, h.good.hvals, h.good.sorted, h.good.keys⟩, ⟨h.tied.rises, h.tied.keys, h.tied.filled⟩, h.floor,
    by have := h.begunN; show R.begun ≤ _; omega, by have := h.keysN; show R.keys.length ≤ _; omega, by have := h.totN; show R.total ≤ _; omega, h.pins, by have := h.pinsN; show R.pinSum ≤ _; omega, ⟨by have := h.startN.1; show 0 ≤ st; omega, h1⟩, hc, h4⟩

theorem fp_cops {R : Rep} {cm : Option Nat} {cops : List (Int × Cop)} {st : Int} {n : Nat} (h : cm = R.cm ∨ ∃ q, cm = some q ∧ n ≤ q) : ∀ k ∈ Rep.fp { R with cm := cm, started := st, copyings := cops }, k ∈ R.fp ∨ n ≤ k := fun k hk => by
  rcases h with rfl | ⟨q, rfl, hq⟩
  · exact .inl hk
  · rw [(fp_split _).mem_iff] at hk
    rw [(fp_split R).mem_iff]
    simp only [pcOf, List.mem_cons, List.mem_append, Option.toList_some] at hk ⊢
    rcases hk with h | (h | h) | h
    · exact .inl (.inl h)
    · exact .inl (.inr (.inl (.inl h)))
    · right
      simp at h
      omega
    · exact .inl (.inr (.inr h))

/-- Start -/
def Gst.judgeJ (A : Gst) (full : Bool) (a b : Int) : Int := judgeI (A.hasB b) (A.hasB a) A.copyings.length (tellL A.keys A.vers (Cop.new full a b)).length (Cop.new full a b)

def Gst.startR (A : Gst) (full : Bool) (a b : Int) : Int × Int := if A.judgeJ full a b = 0 then (A.started + 1, 0) else (0, A.judgeJ full a b)

def Gst.startS (A : Gst) (full : Bool) (a b : Int) : Gst := if A.judgeJ full a b = 0 then { A with started := A.started + 1, copyings := A.copyings ++ [(A.started + 1, Cop.new full a b)] } else A

theorem judgeI_range (ht hf : Bool) (n tl : Nat) (x : Cop) : judgeI ht hf n tl x = 0 ∨ 1 ≤ judgeI ht hf n tl x ∧ judgeI ht hf n tl x ≤ 9 := by
  unfold judgeI
  split
  · exact .inr (by omega)
  · split
    · exact .inr (by omega)
    · split
      · exact .inr (by omega)
      · exact .inl rfl

theorem judgeI_zero {ht hf : Bool} {n tl : Nat} {x : Cop} (h : judgeI ht hf n tl x = 0) : ht = true ∧ fitB x.full x.from' x.to = true ∧ n < 4 ∧ tl ≤ 1000 := by
  unfold judgeI at h
  split at h
  · omega
  · rename_i h1
    split at h
    · omega
    · rename_i h2
      split at h
      · omega
      · rename_i h3
        refine ⟨?_, by simpa using h2, by omega, by omega⟩
        cases ht with
        | true => rfl
        | false => exact absurd (.inl rfl) h1

theorem cop_new_ok {full : Bool} {a b : Int} (h : fitB full a b = true) : (Cop.new full a b).Ok := by
  unfold fitB stateB at h
  simp at h
  exact ⟨⟨by show 0 ≤ a; omega, by show a ≤ _; omega⟩, ⟨by show 0 ≤ b; omega, by show b ≤ _; omega⟩, Nat.zero_le _, ⟨Int.le_refl _, by show (0 : Int) < _; omega⟩, ⟨Int.le_refl _, by show (0 : Int) ≤ _; omega⟩⟩

theorem start_g {N : Nat} {w : World} {b : Nat} {A : Gst} {F : List Nat} (full : Bool) (x y : Int) (h : GSt N w b A F) (hN : N ≤ 100000000000) :
    Calls Tryz.prog 32 #[.pointer (some ⟨b, 0, none⟩), .bool full, .int .i64 x, .int .i64 y] w fun e w' => e = .returned (.tuple #[.int .i64 (A.startR full x y).1, .int .i64 (A.startR full x y).2]) ∧ After (N + 1) b (A.startS full x y) F w w' := by
  have hG := h
  obtain ⟨R, hi, rfl, rfl, rfl⟩ := h
  have hkn := hi.keysN
  have hst := hi.startN
  unfold Gst.startR Gst.startS
  have hjj : R.gst.judgeJ full x y = judgeI (decide (R.floor ≤ y) && decide (y ≤ R.now)) (decide (R.floor ≤ x) && decide (x ≤ R.now)) R.copyings.length (tellL R.keys (versOf R.hist) (Cop.new full x y)).length (Cop.new full x y) := rfl
  rcases judgeI_range (decide (R.floor ≤ y) && decide (y ≤ R.now)) (decide (R.floor ≤ x) && decide (x ≤ R.now)) R.copyings.length (tellL R.keys (versOf R.hist) (Cop.new full x y)).length (Cop.new full x y) with h0 | ⟨h1, h9⟩
  · rw [hjj, h0, if_pos rfl, if_pos rfl]
    have hnone : look R.copyings (R.started + 1) = none := look_none.2 (fun p hp e => by have := (hi.cops p hp).2.1; omega)
    obtain ⟨-, hfit, hn4, -⟩ := judgeI_zero h0
    have hcall : Calls Tryz.prog 32 #[.pointer (some ⟨R.sb, 0, none⟩), .bool full, .int .i64 x, .int .i64 y] w fun e w' => e = .returned (.tuple #[.int .i64 (R.started + 1), .int .i64 0]) ∧ StartPost R (Cop.new full x y) w w' := by
      cases hcm : R.cm with
      | some q => exact start_some R full x y w hi.st hi.good hi.tied.rises (by omega) hi.cops4 h0 hst.1 (by omega) hnone q hcm
      | none => exact start_new R full x y w hi.st hi.good hi.tied.rises (by omega) hi.cops4 h0 hst.1 (by omega) hnone hcm
    refine hcall.mono ?_
    rintro e w' ⟨rfl, cm, h1, h2, h3⟩
    refine ⟨rfl, Rep.fp { R with cm := cm, started := R.started + 1, copyings := R.copyings ++ [(R.started + 1, Cop.new full x y)] }, ⟨_, hi.coped (by omega) h1 (by omega) (by omega) (fun p hp => ?_) (by simp; omega), rfl, rfl, rfl⟩, h2, fp_cops h3⟩
    rcases List.mem_append.1 hp with hp | hp
    · obtain ⟨a1, a2, a3⟩ := hi.cops p hp
      exact ⟨a1, by omega, a3⟩
    · simp at hp
      subst hp
      exact ⟨by show 1 ≤ R.started + 1; omega, Int.le_refl _, cop_new_ok hfit⟩
  · rw [hjj, if_neg (by omega), if_neg (by omega)]
    refine (start_bad R full x y _ w hi.st hi.good hi.tied.rises (by omega) hi.cops4 rfl h1 h9).mono ?_
    rintro e w' ⟨rfl, hk⟩
    exact ⟨rfl, hG.after (by omega) hk⟩

/-- Next -/
def Gst.nextR (A : Gst) (n : Int) : List UInt8 × Bool × Int := match look A.copyings n with
  | none => ([], false, 1)
  | some x => ((goX x (tell4 A.keys A.vers x)).1, (goX x (tell4 A.keys A.vers x)).2.1, 0)

def Gst.nextS (A : Gst) (n : Int) : Gst := match look A.copyings n with
  | none => A
  | some x => { A with copyings := if (goX x (tell4 A.keys A.vers x)).2.1 = true then del A.copyings n else put A.copyings n (goX x (tell4 A.keys A.vers x)).2.2 }

theorem goX_ok {x : Cop} {recs : List RecB} (h : x.Ok) (hc : x.count ≤ 999999999996) (h4 : recs.length ≤ 4) (hk : ∀ r ∈ recs, r.key.size ≤ 10) : (goX x recs).2.2.Ok := by
  obtain ⟨h1, h2, h3, h5, h6⟩ := h
  unfold goX
  split
  · exact ⟨h1, h2, h3, ⟨by simp, by have := ovL_lt x.sum.toNat (headL x.full x.from'.toNat x.to.toNat); simp only; omega⟩, h6⟩
  · split
    · exact ⟨h1, h2, h3, h5, h6⟩
    · refine ⟨h1, h2, ?_, ⟨by simp, by have := ovL_lt x.sum.toNat (blockL (recs.map RecB.rec_)); simp only; omega⟩, ⟨by simp only; omega, by simp only; omega⟩⟩
      show (((recs.getLast?.map RecB.key).getD ByteArray.empty) ++ ⟨#[0]⟩).size ≤ 11
      rw [ByteArray.size_append]
      have : ((recs.getLast?.map RecB.key).getD ByteArray.empty).size ≤ 10 := by
        cases hl : recs.getLast? with
        | none => exact Nat.zero_le _
        | some r => exact hk r (List.mem_of_getLast? hl)
      have e1 : (⟨#[0]⟩ : ByteArray).size = 1 := rfl
      omega

theorem mem_putC {l : List (Int × Cop)} {s : Int} {v : Cop} {p : Int × Cop} (h : p ∈ put l s v) : p = (s, v) ∨ p ∈ l := by
  induction l with
  | nil => simp [put] at h; exact .inl h
  | cons q r ih =>
    obtain ⟨a, y⟩ := q
    unfold put at h
    by_cases e : a = s
    · rw [if_pos e] at h
      rcases List.mem_cons.1 h with h | h
      · exact .inl h
      · exact .inr (by simp [h])
    · rw [if_neg e] at h
      rcases List.mem_cons.1 h with h | h
      · exact .inr (by simp [h])
      · exact (ih h).imp id (fun h => by simp [h])

theorem mem_delC {l : List (Int × Cop)} {s : Int} {p : Int × Cop} (h : p ∈ del l s) : p ∈ l := by
  induction l with
  | nil => exact h
  | cons q r ih =>
    obtain ⟨a, y⟩ := q
    unfold del at h
    by_cases e : a = s
    · rw [if_pos e] at h
      simp [h]
    · rw [if_neg e] at h
      rcases List.mem_cons.1 h with h | h
      · simp [h]
      · have := ih h; simp [this]

theorem len_delC : ∀ (l : List (Int × Cop)) (s : Int), (del l s).length ≤ l.length
  | [], s => Nat.le_refl _
  | (a, y) :: r, s => by
    unfold del
    split
    · simp
    · have := len_delC r s; simp; omega

theorem next_g {N : Nat} {w : World} {b : Nat} {A : Gst} {F : List Nat} (n : Int) (h : GSt N w b A F) (hN : N ≤ 100000000000) (ht : TurnsAt w) (hc : ∀ x, look A.copyings n = some x → x.count ≤ 999999999996) :
    Calls Tryz.prog 33 #[.pointer (some ⟨b, 0, none⟩), .int .i64 n] w fun e w' => e = .returned (.tuple #[.string (ofL (A.nextR n).1), .bool (A.nextR n).2.1, .int .i64 (A.nextR n).2.2]) ∧ After N b (A.nextS n) F w w' := by
  have hG := h
  obtain ⟨R, hi, rfl, rfl, rfl⟩ := h
  have hkn := hi.keysN
  unfold Gst.nextR Gst.nextS
  cases hx : look R.copyings n with
  | none =>
    rw [show look R.gst.copyings n = none from hx]
    refine (next_none R n w hi.st hx).mono ?_
    rintro e w' ⟨rfl, hk⟩
    exact ⟨rfl, hG.after (by omega) hk⟩
  | some x =>
    rw [show look R.gst.copyings n = some x from hx]
    obtain ⟨o1, o2, o3⟩ := hi.cops _ (look_mem hx)
    simp only at o1 o2 o3
    refine (next_some R n x w hi.st hi.good hi.tied.rises (by omega) o3 ht hx).mono ?_
    rintro e w' ⟨rfl, h1, h2⟩
    have hok : (goX x (tell4 R.keys (versOf R.hist) x)).2.2.Ok := goX_ok o3 (hc x hx) (by unfold tell4; rw [List.length_take]; omega) (fun r hr => by have := tell_small hi.good x r (List.mem_of_mem_take hr); omega)
    have e4 : R.gst.keys = R.keys := rfl
    have e5 : R.gst.vers = versOf R.hist := rfl
    refine ⟨rfl, R.fp, ⟨_, hi.coped (Nat.le_refl _) h1 (Int.le_refl _) hi.startN.2 (fun p hp => ?_) ?_, rfl, rfl, rfl⟩, h2, fun k hk => .inl hk⟩
    · split at hp
      · exact hi.cops p (mem_delC hp)
      · rcases mem_putC hp with rfl | hp
        · exact ⟨o1, o2, hok⟩
        · exact hi.cops p hp
    · split
      · have := len_delC R.copyings n
        have := hi.cops4
        omega
      · rw [length_put, hx]
        exact hi.cops4

end Go.Proofs.YtpagenipflmlfaaGreatDoor
