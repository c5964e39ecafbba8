/- write: a work with one step that is committed. -/
import Derived.Test.YtfcocbcihhdbkaaT3
namespace Go.Proofs.Ytfcocbcihhdbkaa
open Go.RowKit Go.Shelf

/-- what write leaves -/
def WritePost (O : Nat → Prop) (b : Nat) (A : Abs) (what key : Int) (val : ByteArray) (w : World) (e : Ending) (w' : World) : Prop :=
  e = .returned (.bool true) ∧ SAt K12 O w' b (A.next (keyZ (pickZ key 12)) (if pickZ what 4 = 3 then ByteArray.empty else val.extract 0 40) (decide (pickZ what 4 = 3))) ∧ Keeps (fun k => ¬ O k) w w'

/-- Commit behind one step -/
theorem commit_next {O : Nat → Prop} {w : World} {b : Nat} {A : Abs} {K : List ByteArray} {key val : ByteArray} {gone : Bool} (s : SAt K O w b (A.opened.wrote (A.begun + 1) A.now [] key ⟨0, val, gone⟩)) (hK : K.length ≤ 30) (hA : Sound A) (hO : ∀ k, O k → k < w.heap.size) (hnow : A.now < 1000000000) :
    Calls Try.prog 13 #[.pointer (some ⟨b, 0, none⟩), .int .i64 (A.begun + 1)] w fun e w' => e = .returned (.tuple #[.int .i64 (A.now + 1), .int .i64 0]) ∧ SAt K O w' b (A.next key val gone) ∧ Keeps (fun k => ¬ O k) w w' := by
  have e1 : put (A.works ++ [(A.begun + 1, (A.now, []))]) (A.begun + 1) (A.now, put [] key (⟨0, val, gone⟩ : Ver)) = A.works ++ [(A.begun + 1, (A.now, put [] key ⟨0, val, gone⟩))] := put_snoc _ _ hA.fresh
  have hl : look (A.opened.wrote (A.begun + 1) A.now [] key ⟨0, val, gone⟩).works (A.begun + 1) = some (A.now, put [] key ⟨0, val, gone⟩) := by
    simp only [Abs.opened, Abs.wrote, e1]
    exact look_snoc _ hA.fresh
  refine (commit_s s hO hK hl (by simp [put]) hnow).mono ?_
  rintro e w' ⟨⟨⟨k, _, hlt⟩, _⟩ | ⟨_, rfl, h3⟩, h4⟩
  · have := hA.last k
    have h' : A.now < lastOf (A.vers k) := hlt
    omega
  · rw [next_eq hA] at h3
    exact ⟨rfl, h3, h4⟩

set_option maxRecDepth 100000 in
set_option maxHeartbeats 800000 in
theorem lawWrite_put {O : Nat → Prop} {w : World} {b : Nat} {A : Abs} (what key : Int) (val : ByteArray) (h : SAt K12 O w b A) (hO : ∀ k, O k → k < w.heap.size) (hl : A.works.length < 8) (hnow : A.now < 1000000000) (hb : A.begun < 1000000000000)
    (hw : -9223372036854775808 ≤ what ∧ what ≤ 9223372036854775807) (hk : -9223372036854775808 ≤ key ∧ key ≤ 9223372036854775807) (hv : val.size ≤ maxLen) (hne : ¬ pickZ what 4 = 3) :
    Calls Try.prog 6 #[.pointer (some ⟨b, 0, none⟩), .agg #[.int .i64 what, .int .i64 key, .string val]] w (WritePost O b A what key val w) := by
  have hs := h.sound
  have HO' : Hid (∀ k, (O k ∨ k = w.heap.size) → k < w.heap.size + 1) := fun k hk => by
    rcases hk with hk | hk
    · have := hO k hk; omega
    · omega
  have hb1 := begin_s (((h.more (O' := fun k => O k ∨ k = w.heap.size) (fun k hk => hk.imp id (fun e => by omega))).kept ((Keeps.refl (fun _ => False) w).al (.cells #[.int .i64 what, .int .i64 key, .string val] 27)) (fun _ _ h => h.elim))) (fun k hk => by simpa using HO'.out k hk) hl (by omega)
  have HB := hid hb1
  have HP1 := hid (fun W => pick_any what 4 W hw ⟨by decide, by decide⟩)
  have HP2 := hid (fun W => pick_any key 12 W hk ⟨by decide, by decide⟩)
  have HC := hid (fun W => cut_any val W hv)
  obtain ⟨hp0, hp1⟩ := pick_lt key (n := 12) (by decide)
  have HK := hid (fun W => key_any (pickZ key 12) W ⟨hp0, hp1⟩)
  have HV := hid (cut_ok val)
  have HKK := hid (And.intro (key_mem hp0 hp1) (key_ok hp0 hp1))
  have HS := hid hs
  have HH := hid hO
  have HNOW := hid hnow
  generalize hkz : pickZ key 12 = kz at *
  have HKZ := hid hkz
  generalize hvx : val.extract 0 40 = vx at *
  have HVX := hid hvx
  clear hb1 hw hk hv hs hp0 hp1 hO h hl hnow hb hkz hvx
  go_enter Try.func6, Try.ntmps6
  go_wp2_with (first
    | (go_at_call 7; go_must (refine (HB.out).mono ?_; rintro e w1 ⟨rfl, s1, k1⟩; obtain ⟨q0, q1, q2, -⟩ := three_cells (box_kept k1 (fun h => h (.inr rfl)))))
    | (go_at_call 8; go_must (refine (HP1.out _).mono ?_; rintro e w1 ⟨rfl, rfl⟩)))
  have HPUT := hid (fun W (hW : Keeps (fun _ => False) w1 W) => put_s (key := keyZ kz) (val := vx) (s1.kept hW (fun _ _ h => h.elim)) K12_len (look_snoc (A.now, []) HS.out.fresh) HKK.out.1 HKK.out.2 HV.out)
  have K1 := hid k1
  clear s1 k1
  go_region_held3 (fun W => W.cell? ⟨w.heap.size, 1, none⟩ = some (.int .i64 key) ∧ W.cell? ⟨w.heap.size, 2, none⟩ = some (.string val)) (go_keep) (first
    | (go_at_call 8; refine (HP2.out _).mono ?_; rintro e wp ⟨rfl, rfl⟩)
    | (go_at_call 11; refine (HK.out _).mono ?_; rintro e w2 ⟨rfl, k2⟩; have k2' : Keeps (fun _ => False) w1 w2 := (Keeps.drew _ _).tr k2 (fun _ h => h); have r1 := k2'.cell (p := ⟨w.heap.size, 1, none⟩) q1 (fun h => h); have r2 := k2'.cell (p := ⟨w.heap.size, 2, none⟩) q2 (fun h => h))
    | (go_at_call 9; refine (HC.out _).mono ?_; rintro e wp ⟨rfl, rfl⟩)
    | (go_at_call 10; refine (HPUT.out _ k2').mono ?_; rintro e w3 ⟨rfl, s3, k3⟩; have p1 := k3.cell (p := ⟨w.heap.size, 1, none⟩) r1 (fun h => h (.inr rfl)); have p2 := k3.cell (p := ⟨w.heap.size, 2, none⟩) r2 (fun h => h (.inr rfl))))
  have hz1 := K1.out.size
  have hz2 := k2'.size
  have hz3 := k3.size
  simp at hz1
  have HCOM := hid (commit_next s3 K12_len HS.out (fun k hk => by have := HO'.out k hk; omega) HNOW.out)
  have K3 := hid k3
  have K2 := hid k2'
  clear s3 k3 k2 k2' r1 r2 p1 p2 q0 q1 q2 hz1 hz2 hz3
  go_wp2_with (go_at_call 13; go_must (refine (HCOM.out).mono ?_; rintro e w4 ⟨rfl, s4, k4⟩))
  go_ret
  refine ⟨rfl, ?_, ?_⟩
  · simp only [if_neg hne, decide_eq_false hne, HKZ.out, HVX.out]
    exact s4.more (fun k hk => .inl (.inl hk))
  · have t1 : Keeps (fun k => ¬ O k) w w1 := ((Keeps.refl _ w).al _).trans K1.out (fun k _ hk ho => hk (.inl ho))
    have t2 : Keeps (fun k => ¬ O k) w wp := t1.trans K2.out (fun k _ hk => hk.elim)
    have t3 : Keeps (fun k => ¬ O k) w w3 := t2.trans K3.out (fun k _ hk ho => hk (.inl ho))
    exact t3.trans k4 (fun k _ hk ho => hk (.inl ho))

set_option maxRecDepth 100000 in
set_option maxHeartbeats 800000 in
theorem lawWrite_del {O : Nat → Prop} {w : World} {b : Nat} {A : Abs} (what key : Int) (val : ByteArray) (h : SAt K12 O w b A) (hO : ∀ k, O k → k < w.heap.size) (hl : A.works.length < 8) (hnow : A.now < 1000000000) (hb : A.begun < 1000000000000)
    (hw : -9223372036854775808 ≤ what ∧ what ≤ 9223372036854775807) (hk : -9223372036854775808 ≤ key ∧ key ≤ 9223372036854775807) (hne : pickZ what 4 = 3) :
    Calls Try.prog 6 #[.pointer (some ⟨b, 0, none⟩), .agg #[.int .i64 what, .int .i64 key, .string val]] w (WritePost O b A what key val w) := by
  have hs := h.sound
  have HO' : Hid (∀ k, (O k ∨ k = w.heap.size) → k < w.heap.size + 1) := fun k hk => by
    rcases hk with hk | hk
    · have := hO k hk; omega
    · omega
  have hb1 := begin_s (((h.more (O' := fun k => O k ∨ k = w.heap.size) (fun k hk => hk.imp id (fun e => by omega))).kept ((Keeps.refl (fun _ => False) w).al (.cells #[.int .i64 what, .int .i64 key, .string val] 27)) (fun _ _ h => h.elim))) (fun k hk => by simpa using HO'.out k hk) hl (by omega)
  have HB := hid hb1
  have HP1 := hid (fun W => pick_any what 4 W hw ⟨by decide, by decide⟩)
  have HP2 := hid (fun W => pick_any key 12 W hk ⟨by decide, by decide⟩)
  obtain ⟨hp0, hp1⟩ := pick_lt key (n := 12) (by decide)
  have HK := hid (fun W => key_any (pickZ key 12) W ⟨hp0, hp1⟩)
  have HKK := hid (And.intro (key_mem hp0 hp1) (key_ok hp0 hp1))
  have HS := hid hs
  have HH := hid hO
  have HNOW := hid hnow
  generalize hkz : pickZ key 12 = kz at *
  have HKZ := hid hkz
  have HNE := hid hne
  have hP : ∀ W, Calls Try.prog 8 #[.int .i64 what, .int .i64 4] W fun e w' => e = .returned (.int .i64 3) ∧ w' = W := fun W => by have := HP1.out W; rwa [hne] at this
  have HP3 := hid hP
  clear hb1 hw hk hs hp0 hp1 hO h hl hnow hb hne hP HP1 hkz
  go_enter Try.func6, Try.ntmps6
  go_wp2_with (go_at_call 7; go_must (refine (HB.out).mono ?_; rintro e w1 ⟨rfl, s1, k1⟩; obtain ⟨q0, q1, q2, -⟩ := three_cells (box_kept k1 (fun h => h (.inr rfl)))))
  refine (HP3.out _).mono ?_
  rintro e w1 ⟨rfl, rfl⟩
  have HDEL := hid (fun W (hW : Keeps (fun _ => False) w1 W) => delete_s (key := keyZ kz) (s1.kept hW (fun _ _ h => h.elim)) K12_len (look_snoc (A.now, []) HS.out.fresh) HKK.out.1 HKK.out.2)
  have K1 := hid k1
  clear s1 k1
  go_wp2_with (first
    | (go_at_call 8; go_must (refine (HP2.out _).mono ?_; rintro e w1 ⟨rfl, rfl⟩))
    | (go_at_call 11; go_must (refine (HK.out _).mono ?_; rintro e w2 ⟨rfl, k2⟩))
    | (go_at_call 19; go_must (refine (HDEL.out _ k2).mono ?_; rintro e w3 ⟨rfl, s3, k3⟩; have hz1 := K1.out.size; have hz2 := k2.size; have hz3 := k3.size; simp at hz1; have HCOM := hid (commit_next s3 K12_len HS.out (fun k hk => by have := HO'.out k hk; omega) HNOW.out); have K3 := hid k3; have K2 := hid k2; clear s3 k3 k2 q0 q1 q2 hz1 hz2 hz3))
    | (go_at_call 13; go_must (refine (HCOM.out).mono ?_; rintro e w4 ⟨rfl, s4, k4⟩)))
  go_ret
  refine ⟨rfl, ?_, ?_⟩
  · simp only [if_pos HNE.out, decide_eq_true HNE.out, HKZ.out]
    exact s4.more (fun k hk => .inl (.inl hk))
  · have t1 : Keeps (fun k => ¬ O k) w w1 := ((Keeps.refl _ w).al _).trans K1.out (fun k _ hk ho => hk (.inl ho))
    have t2 : Keeps (fun k => ¬ O k) w w2 := t1.trans K2.out (fun k _ hk => hk.elim)
    have t3 : Keeps (fun k => ¬ O k) w w3 := t2.trans K3.out (fun k _ hk ho => hk (.inl ho))
    exact t3.trans k4 (fun k _ hk ho => hk (.inl ho))

theorem lawWrite_any {O : Nat → Prop} {w : World} {b : Nat} {A : Abs} (what key : Int) (val : ByteArray) (h : SAt K12 O w b A) (hO : ∀ k, O k → k < w.heap.size) (hl : A.works.length < 8) (hnow : A.now < 1000000000) (hb : A.begun < 1000000000000)
    (hw : -9223372036854775808 ≤ what ∧ what ≤ 9223372036854775807) (hk : -9223372036854775808 ≤ key ∧ key ≤ 9223372036854775807) (hv : val.size ≤ maxLen) :
    Calls Try.prog 6 #[.pointer (some ⟨b, 0, none⟩), .agg #[.int .i64 what, .int .i64 key, .string val]] w (WritePost O b A what key val w) := by
  by_cases hne : pickZ what 4 = 3
  · exact lawWrite_del what key val h hO hl hnow hb hw hk hne
  · exact lawWrite_put what key val h hO hl hnow hb hw hk hv hne

end Go.Proofs.Ytfcocbcihhdbkaa
