import Derived.Test.YtgianpccgcjmjaaGreatDoorM30

/- write: a work with one step that is committed. -/
namespace Go.Proofs.YtgianpccgcjmjaaGreatDoor
open Go.RowKit Go.Shelf

/-- what write leaves -/
def WritePost (O : Nat → Prop) (b : Nat) (A : Abs) (what key : Int) (val : ByteArray) (w : World) (e : Ending) (w' : World) : Prop :=
  e = .returned (.bool true) ∧ SAt K12 O w' b (A.next (keyZ (pickZ key 12)) (if pickZ what 4 = 3 then ByteArray.empty else val.extract 0 40) (decide (pickZ what 4 = 3))) ∧ Keeps (fun k => ¬ O k) w w'

/-- Commit behind one step -/
theorem commit_next {O : Nat → Prop} {w : World} {b : Nat} {A : Abs} {K : List ByteArray} {key val : ByteArray} {gone : Bool} (s : SAt K O w b (A.opened.wrote (A.begun + 1) A.now [] key ⟨0, val, gone⟩)) (hK : K.length ≤ 30) (hA : Sound A) (hO : ∀ k, O k → k < w.heap.size) (hnow : A.now < 1000000000) :
    Calls Tryz.prog 18 #[.pointer (some ⟨b, 0, none⟩), .int .i64 (A.begun + 1)] w fun e w' => e = .returned (.tuple #[.int .i64 (A.now + 1), .int .i64 0]) ∧ SAt K O w' b (A.next key val gone) ∧ Keeps (fun k => ¬ O k) w w' := by
  have e1 : put (A.works ++ [(A.begun + 1, (A.now, []))]) (A.begun + 1) (A.now, put [] key (⟨0, val, gone⟩ : Ver)) = A.works ++ [(A.begun + 1, (A.now, put [] key ⟨0, val, gone⟩))] := put_snoc _ _ hA.fresh
  have hl : look (A.opened.wrote (A.begun + 1) A.now [] key ⟨0, val, gone⟩).works (A.begun + 1) = some (A.now, put [] key ⟨0, val, gone⟩) := by
    simp only [Abs.opened, Abs.wrote, e1]
    exact look_snoc _ hA.fresh
  refine (commit_s s hO hK hl (by simp [put]) hnow).mono ?_
  rintro e w' ⟨⟨⟨k, _, hlt⟩, _⟩ | ⟨_, rfl, h3⟩, h4⟩
  · have := hA.last k
    have h' : A.now < lastOf (A.vers k) := hlt
    omega
  · rw [next_eq hA] at h3
    exact ⟨rfl, h3, h4⟩

set_option maxRecDepth 100000 in
set_option maxHeartbeats 800000 in
theorem lawWrite_put {O : Nat → Prop} {w : World} {b : Nat} {A : Abs} (what key : Int) (val : ByteArray) (h : SAt K12 O w b A) (hO : ∀ k, O k → k < w.heap.size) (hl : A.works.length < 8) (hnow : A.now < 1000000000) (hb : A.begun < 1000000000000)
    (hw : -9223372036854775808 ≤ what ∧ what ≤ 9223372036854775807) (hk : -9223372036854775808 ≤ key ∧ key ≤ 9223372036854775807) (hv : val.size ≤ maxLen) (hne : ¬ pickZ what 4 = 3) :
    Calls Tryz.prog 5 #[.pointer (some ⟨b, 0, none⟩), .agg #[.int .i64 what, .int .i64 key, .string val]] w (WritePost O b A what key val w) := by
  have hs := h.sound
  have HO' : Hid (∀ k, (O k ∨ k = w.heap.size) → k < w.heap.size + 1) := fun k hk => by
    rcases hk with hk | hk
    · have := hO k hk; omega
    · omega
  have hb1 := begin_s (((h.more (O' := fun k => O k ∨ k = w.heap.size) (fun k hk => hk.imp id (fun e => by omega))).kept ((Keeps.refl (fun _ => False) w).al (.cells #[.int .i64 what, .int .i64 key, .string val] 27)) (fun _ _ h => h.elim))) (fun k hk => by simpa using HO'.out k hk) hl (by omega)
  have HB := hid hb1
  have HP1 := hid (fun W => pick_any what 4 W hw ⟨by decide, by decide⟩)
  have HP2 := hid (fun W => pick_any key 12 W hk ⟨by decide, by decide⟩)
  have HC := hid (fun W => cut_any val W hv)
  obtain ⟨hp0, hp1⟩ := pick_lt key (n := 12) (by decide)
  have HK := hid (fun W => key_any (pickZ key 12) W ⟨hp0, hp1⟩)
  have HV := hid (cut_ok val)
  have HKK := hid (And.intro (key_mem hp0 hp1) (key_ok hp0 hp1))
  have HS := hid hs
  have HH := hid hO
  have HNOW := hid hnow
  generalize hkz : pickZ key 12 = kz at *
  have HKZ := hid hkz
  generalize hvx : val.extract 0 40 = vx at *
  have HVX := hid hvx
  clear hb1 hw hk hv hs hp0 hp1 hO h hl hnow hb hkz hvx
  go_enter Tryz.func5, Tryz.ntmps5
  go_wp2_with (first
    | (go_at_call 16; go_must (refine (HB.out).mono ?_; rintro e w1 ⟨rfl, s1, k1⟩; obtain ⟨q0, q1, q2, -⟩ := three_cells (box_kept k1 (fun h => h (.inr rfl)))))
    | (go_at_call 20; go_must (refine (HP1.out _).mono ?_; rintro e w1 ⟨rfl, rfl⟩)))
  have HPUT := hid (fun W (hW : Keeps (fun _ => False) w1 W) => put_s (key := keyZ kz) (val := vx) (s1.kept hW (fun _ _ h => h.elim)) K12_len (look_snoc (A.now, []) HS.out.fresh) HKK.out.1 HKK.out.2 HV.out)
  have K1 := hid k1
  clear s1 k1
  go_region_held3 (fun W => W.cell? ⟨w.heap.size, 1, none⟩ = some (.int .i64 key) ∧ W.cell? ⟨w.heap.size, 2, none⟩ = some (.string val)) (go_keep) (first
    | (go_at_call 20; refine (HP2.out _).mono ?_; rintro e wp ⟨rfl, rfl⟩)
    | (go_at_call 22; refine (HK.out _).mono ?_; rintro e w2 ⟨rfl, k2⟩; have k2' : Keeps (fun _ => False) w1 w2 := (Keeps.drew _ _).tr k2 (fun _ h => h); have r1 := k2'.cell (p := ⟨w.heap.size, 1, none⟩) q1 (fun h => h); have r2 := k2'.cell (p := ⟨w.heap.size, 2, none⟩) q2 (fun h => h))
    | (go_at_call 23; refine (HC.out _).mono ?_; rintro e wp ⟨rfl, rfl⟩)
    | (go_at_call 17; refine (HPUT.out _ k2').mono ?_; rintro e w3 ⟨rfl, s3, k3⟩; have p1 := k3.cell (p := ⟨w.heap.size, 1, none⟩) r1 (fun h => h (.inr rfl)); have p2 := k3.cell (p := ⟨w.heap.size, 2, none⟩) r2 (fun h => h (.inr rfl))))
  have hz1 := K1.out.size
  have hz2 := k2'.size
  have hz3 := k3.size
  simp at hz1
  have HCOM := hid (commit_next s3 K12_len HS.out (fun k hk => by have := HO'.out k hk; omega) HNOW.out)
  have K3 := hid k3
  have K2 := hid k2'
  clear s3 k3 k2 k2' r1 r2 p1 p2 q0 q1 q2 hz1 hz2 hz3
  go_wp2_with (go_at_call 18; go_must (refine (HCOM.out).mono ?_; rintro e w4 ⟨rfl, s4, k4⟩))
  go_ret
  refine ⟨rfl, ?_, ?_⟩
  · simp only [if_neg hne, decide_eq_false hne, HKZ.out, HVX.out]
    exact s4.more (fun k hk => .inl (.inl hk))
  · have t1 : Keeps (fun k => ¬ O k) w w1 := ((Keeps.refl _ w).al _).trans K1.out (fun k _ hk ho => hk (.inl ho))
    have t2 : Keeps (fun k => ¬ O k) w wp := t1.trans K2.out (fun k _ hk => hk.elim)
    have t3 : Keeps (fun k => ¬ O k) w w3 := t2.trans K3.out (fun k _ hk ho => hk (.inl ho))
    exact t3.trans k4 (fun k _ hk ho => hk (.inl ho))

set_option maxRecDepth 100000 in
set_option maxHeartbeats 800000 in
theorem lawWrite_del {O : Nat → Prop} {w : World} {b : Nat} {A : Abs} (what key : Int) (val : ByteArray) (h : SAt K12 O w b A) (hO : ∀ k, O k → k < w.heap.size) (hl : A.works.length < 8) (hnow : A.now < 1000000000) (hb : A.begun < 1000000000000)
    (hw : -9223372036854775808 ≤ what ∧ what ≤ 9223372036854775807) (hk : -9223372036854775808 ≤ key ∧ key ≤ 9223372036854775807) (hne : pickZ what 4 = 3) :
    Calls Tryz.prog 5 #[.pointer (some ⟨b, 0, none⟩), .agg #[.int .i64 what, .int .i64 key, .string val]] w (WritePost O b A what key val w) := by
  have hs := h.sound
  have HO' : Hid (∀ k, (O k ∨ k = w.heap.size) → k < w.heap.size + 1) := fun k hk => by
    rcases hk with hk | hk
    · have := hO k hk; omega
    · omega
  have hb1 := begin_s (((h.more (O' := fun k => O k ∨ k = w.heap.size) (fun k hk => hk.imp id (fun e => by omega))).kept ((Keeps.refl (fun _ => False) w).al (.cells #[.int .i64 what, .int .i64 key, .string val] 27)) (fun _ _ h => h.elim))) (fun k hk => by simpa using HO'.out k hk) hl (by omega)
  have HB := hid hb1
  have HP1 := hid (fun W => pick_any what 4 W hw ⟨by decide, by decide⟩)
  have HP2 := hid (fun W => pick_any key 12 W hk ⟨by decide, by decide⟩)
  obtain ⟨hp0, hp1⟩ := pick_lt key (n := 12) (by decide)
  have HK := hid (fun W => key_any (pickZ key 12) W ⟨hp0, hp1⟩)
  have HKK := hid (And.intro (key_mem hp0 hp1) (key_ok hp0 hp1))
  have HS := hid hs
  have HH := hid hO
  have HNOW := hid hnow
  generalize hkz : pickZ key 12 = kz at *
  have HKZ := hid hkz
  have HNE := hid hne
  have hP : ∀ W, Calls Tryz.prog 20 #[.int .i64 what, .int .i64 4] W fun e w' => e = .returned (.int .i64 3) ∧ w' = W := fun W => by have := HP1.out W; rwa [hne] at this
  have HP3 := hid hP
  clear hb1 hw hk hs hp0 hp1 hO h hl hnow hb hne hP HP1 hkz
  go_enter Tryz.func5, Tryz.ntmps5
  go_wp2_with (go_at_call 16; go_must (refine (HB.out).mono ?_; rintro e w1 ⟨rfl, s1, k1⟩; obtain ⟨q0, q1, q2, -⟩ := three_cells (box_kept k1 (fun h => h (.inr rfl)))))
  refine (HP3.out _).mono ?_
  rintro e w1 ⟨rfl, rfl⟩
  have HDEL := hid (fun W (hW : Keeps (fun _ => False) w1 W) => delete_s (key := keyZ kz) (s1.kept hW (fun _ _ h => h.elim)) K12_len (look_snoc (A.now, []) HS.out.fresh) HKK.out.1 HKK.out.2)
  have K1 := hid k1
  clear s1 k1
  go_wp2_with (first
    | (go_at_call 20; go_must (refine (HP2.out _).mono ?_; rintro e w1 ⟨rfl, rfl⟩))
    | (go_at_call 22; go_must (refine (HK.out _).mono ?_; rintro e w2 ⟨rfl, k2⟩))
    | (go_at_call 21; go_must (refine (HDEL.out _ k2).mono ?_; rintro e w3 ⟨rfl, s3, k3⟩; have hz1 := K1.out.size; have hz2 := k2.size; have hz3 := k3.size; simp at hz1; have HCOM := hid (commit_next s3 K12_len HS.out (fun k hk => by have := HO'.out k hk; omega) HNOW.out); have K3 := hid k3; have K2 := hid k2; clear s3 k3 k2 q0 q1 q2 hz1 hz2 hz3))
    | (go_at_call 18; go_must (refine (HCOM.out).mono ?_; rintro e w4 ⟨rfl, s4, k4⟩)))
  go_ret
  refine ⟨rfl, ?_, ?_⟩
  · simp only [if_pos HNE.out, decide_eq_true HNE.out, HKZ.out]
    exact s4.more (fun k hk => .inl (.inl hk))
  · have t1 : Keeps (fun k => ¬ O k) w w1 := ((Keeps.refl _ w).al _).trans K1.out (fun k _ hk ho => hk (.inl ho))
    have t2 : Keeps (fun k => ¬ O k) w w2 := t1.trans K2.out (fun k _ hk => hk.elim)
    have t3 : Keeps (fun k => ¬ O k) w w3 := t2.trans K3.out (fun k _ hk ho => hk (.inl ho))
    exact t3.trans k4 (fun k _ hk ho => hk (.inl ho))

theorem lawWrite_any {O : Nat → Prop} {w : World} {b : Nat} {A : Abs} (what key : Int) (val : ByteArray) (h : SAt K12 O w b A) (hO : ∀ k, O k → k < w.heap.size) (hl : A.works.length < 8) (hnow : A.now < 1000000000) (hb : A.begun < 1000000000000)
    (hw : -9223372036854775808 ≤ what ∧ what ≤ 9223372036854775807) (hk : -9223372036854775808 ≤ key ∧ key ≤ 9223372036854775807) (hv : val.size ≤ maxLen) :
    Calls Tryz.prog 5 #[.pointer (some ⟨b, 0, none⟩), .agg #[.int .i64 what, .int .i64 key, .string val]] w (WritePost O b A what key val w) := by
  by_cases hne : pickZ what 4 = 3
  · exact lawWrite_del what key val h hO hl hnow hb hw hk hne
  · exact lawWrite_put what key val h hO hl hnow hb hw hk hv hne

end Go.Proofs.YtgianpccgcjmjaaGreatDoor

/- begun: a new store, once a work has done what it must in another. -/
namespace Go.Proofs.YtgianpccgcjmjaaGreatDoor
open Go.RowKit Go.Shelf

theorem storeAt_zero {w : World} {b : Nat} (h : w.heap[b]? = some (.cells (topCells (Rep.zero b)) 62 (0, 0))) : StoreAt w (Rep.zero b) :=
  ⟨h, ⟨rfl, fun p hp => (by cases hp), rfl, rfl⟩, ⟨Row.nil _ _ _, rfl, fun p hp => (by cases hp)⟩, by simp [Rep.fp, Rep.fpWorks, Rep.fpPast, Rep.zero, pcOf, Value.ownBlock]⟩

theorem sat_zero {K : List ByteArray} {O : Nat → Prop} {w : World} {b : Nat} (h : StoreAt w (Rep.zero b)) (hb : ¬ O b) : SAt K O w b Abs.zero :=
  ⟨Rep.zero b, ⟨h, good_zero _, tied_zero _, ⟨rfl, rfl⟩, fun h => absurd h (by simp [Rep.zero]), fun k hk => (by cases hk), fun p hp => (by cases hp)⟩, rfl, rfl, fun k hk => by
    have e : k = b := by simpa [Rep.fp, Rep.fpWorks, Rep.fpPast, Rep.zero, pcOf, Value.ownBlock] using hk
    rw [e]; exact hb⟩

def kB : ByteArray := { data := #[107] }
def vB : ByteArray := { data := #[118] }

theorem begun_get : (Abs.zero.next kB vB false).opened.get 2 kB = (vB, 0) := by decide +kernel

/-- what the store of begun does -/
theorem begun_calls {w : World} {O : Nat → Prop} {b : Nat} (h : SAt [kB] O w b Abs.zero) (hO : ∀ k, O k → k < w.heap.size) :
    Calls Tryz.prog 16 #[.pointer (some ⟨b, 0, none⟩)] w fun e w1 => e = .returned (.tuple #[.int .i64 1, .int .i64 0]) ∧ Keeps (fun k => ¬ O k) w w1 ∧
      Calls Tryz.prog 17 #[.pointer (some ⟨b, 0, none⟩), .int .i64 1, .string kB, .string vB] w1 fun e w2 => e = .returned (.int .i64 0) ∧ Keeps (fun k => ¬ O k) w w2 ∧
      Calls Tryz.prog 18 #[.pointer (some ⟨b, 0, none⟩), .int .i64 1] w2 fun e w3 => e = .returned (.tuple #[.int .i64 1, .int .i64 0]) ∧ Keeps (fun k => ¬ O k) w w3 ∧
      Calls Tryz.prog 16 #[.pointer (some ⟨b, 0, none⟩)] w3 fun e w4 => e = .returned (.tuple #[.int .i64 2, .int .i64 0]) ∧ Keeps (fun k => ¬ O k) w w4 ∧
      Calls Tryz.prog 19 #[.pointer (some ⟨b, 0, none⟩), .int .i64 2, .string kB] w4 fun e w5 => e = .returned (.tuple #[.string { data := #[118] }, .int .i64 0]) ∧ Keeps (fun k => ¬ O k) w w5 := by
  have hs := h.sound
  refine (begin_s h hO (by simp [Abs.zero]) (by simp [Abs.zero])).mono ?_
  rintro e w1 ⟨rfl, s1, k1⟩
  refine ⟨rfl, k1, ?_⟩
  refine (put_s s1 (by simp) (look_snoc (Abs.zero.now, []) hs.fresh) (List.mem_singleton.2 rfl) (by decide +kernel) (by decide +kernel)).mono ?_
  rintro e w2 ⟨rfl, s2, k2⟩
  have k2' : Keeps (fun k => ¬ O k) w w2 := k1.tr k2 (fun _ h => h)
  have z2 := k2'.size
  refine ⟨rfl, k2', ?_⟩
  refine (commit_next s2 (by simp) hs (fun k hk => by have := hO k hk; omega) (by simp [Abs.zero])).mono ?_
  rintro e w3 ⟨rfl, s3, k3⟩
  have k3' : Keeps (fun k => ¬ O k) w w3 := k2'.tr k3 (fun _ h => h)
  have z3 := k3'.size
  refine ⟨rfl, k3', ?_⟩
  refine (begin_s s3 (fun k hk => by have := hO k hk; omega) (by simp [Abs.next, Abs.zero]) (by simp [Abs.next, Abs.zero])).mono ?_
  rintro e w4 ⟨rfl, s4, k4⟩
  have k4' : Keeps (fun k => ¬ O k) w w4 := k3'.tr k4 (fun _ h => h)
  refine ⟨rfl, k4', ?_⟩
  refine (get_s (n := 2) (key := kB) s4 (by decide +kernel)).mono ?_
  rintro e w5 ⟨rfl, s5, k5⟩
  rw [begun_get]
  exact ⟨rfl, k4'.tr k5 (fun _ h => h.elim)⟩

set_option maxRecDepth 100000 in
set_option maxHeartbeats 800000 in
theorem begun_any (w : World) :
    Calls Tryz.prog 4 #[] w fun e w' => ∃ b, e = .returned (.pointer (some ⟨b, 0, none⟩)) ∧ w.heap.size ≤ b ∧ SAt K12 (fun k => k < w.heap.size) w' b Abs.zero ∧ Keeps (fun _ => False) w w' := by
  have HN := hid (fun W => new_any W)
  go_enter Tryz.func4, Tryz.ntmps4
  go_wp2_with fail
  refine (HN.out _).mono ?_
  rintro e w1 ⟨rfl, t1, k1⟩
  have T1 := hid t1
  have K1 := hid k1
  clear t1 k1
  go_wp2_with fail
  refine (HN.out _).mono ?_
  rintro e w2 ⟨rfl, t2, k2⟩
  have hne : w.heap.size ≠ w1.heap.size := by have := T1.out.lt; simp [Rep.zero] at this; omega
  have HS := hid (begun_calls (O := fun k => k < w.heap.size ∨ k = w1.heap.size) (sat_zero (K := [kB]) (T1.out.kept k2 (fun _ _ h => h)) (by omega)) (fun k hk => by
    have z1 := K1.out.size
    have z2 := t2.lt
    simp [Rep.zero] at z2
    omega))
  have T2 := hid t2
  have K2 := hid k2
  clear t2 k2
  go_wp2_with fail
  refine (HS.out).mono ?_
  rintro e w3 ⟨rfl, _, c3⟩
  have HC := hid c3
  clear c3 HS
  go_wp2_with fail
  refine (HC.out).mono ?_
  rintro e w4 ⟨rfl, _, c4⟩
  have HC4 := hid c4
  clear c4 HC
  go_wp2_with fail
  refine (HC4.out).mono ?_
  rintro e w5 ⟨rfl, _, c5⟩
  have HC5 := hid c5
  clear c5 HC4
  go_wp2_with fail
  refine (HC5.out).mono ?_
  rintro e w6 ⟨rfl, _, c6⟩
  have HC6 := hid c6
  clear c6 HC5
  go_wp2_with fail
  refine (HC6.out).mono ?_
  rintro e w7 ⟨rfl, k7⟩
  have K7 := hid k7
  clear k7 HC6
  go_wp2
  go_ret
  have z1 := K1.out.size
  refine ⟨_, rfl, z1, ?_, ?_⟩
  · have h0 : w2.heap[w1.heap.size]? = some (.cells (topCells (Rep.zero w1.heap.size)) 62 (0, 0)) := T2.out.top
    have h1 := (K7.out.block w1.heap.size (Array.getElem?_eq_some_iff.1 h0).1 (fun h => h (.inr rfl))).trans h0
    exact sat_zero (storeAt_zero h1) (by omega)
  · exact (K1.out.tr K2.out (fun _ h => h)).trans K7.out (fun k hk h => h (.inl hk))

end Go.Proofs.YtgianpccgcjmjaaGreatDoor

/- annalskeep's write and all, of a store told by what can be asked of it. -/
namespace Go.Proofs.YtgianpccgcjmjaaGreatDoor
open Go.RowKit Go.Shelf

/-- The store at b is A; the blocks of O are not its own. -/
def HAt (O : Nat → Prop) (N : Nat) (w : World) (b : Nat) (A : Gst) : Prop := ∃ F, GSt N w b A F ∧ ∀ k ∈ F, ¬ O k

theorem HAt.ok {O : Nat → Prop} {N : Nat} {w : World} {b : Nat} {A : Gst} (h : HAt O N w b A) : Gok A := by
  obtain ⟨F, h1, h2⟩ := h
  exact h1.ok

theorem HAt.kept {O S : Nat → Prop} {N : Nat} {w w' : World} {b : Nat} {A : Gst} (h : HAt O N w b A) (hk : Keeps S w w') (hS : ∀ k, k < w.heap.size → S k → O k) : HAt O N w' b A := by
  obtain ⟨F, h1, h2⟩ := h
  exact ⟨F, h1.kept hk (fun k hk hs => h2 k hk (hS k (h1.lt k hk) hs)), h2⟩

theorem HAt.more {O O' : Nat → Prop} {N N' : Nat} {w : World} {b : Nat} {A : Gst} (h : HAt O N w b A) (hN : N ≤ N') (hO : ∀ k, O' k → O k ∨ w.heap.size ≤ k) : HAt O' N' w b A := by
  obtain ⟨F, h1, h2⟩ := h
  refine ⟨F, h1.more hN, fun k hk ho => ?_⟩
  rcases hO k ho with h | h
  · exact h2 k hk h
  · have := h1.lt k hk
    omega

theorem HAt.of {O : Nat → Prop} {N : Nat} {w w' : World} {b : Nat} {A : Gst} {F : List Nat} (h : After N b A F w w') (hf : ∀ k ∈ F, ¬ O k) (hO : ∀ k, O k → k < w.heap.size) : HAt O N w' b A ∧ Keeps (fun k => ¬ O k) w w' := by
  obtain ⟨F', h1, h2, h3⟩ := h
  refine ⟨⟨F', h1, fun k hk ho => ?_⟩, h2.mono (fun k _ hk => hf k hk)⟩
  rcases h3 k hk with h | h
  · exact hf k h ho
  · have := hO k ho
    omega

theorem HAt.call {O : Nat → Prop} {N N' : Nat} {w : World} {b f : Nat} {A A' : Gst} {xs : Array Value} {Q : Ending → Prop} (h : HAt O N w b A) (hO : ∀ k, O k → k < w.heap.size) (hc : ∀ F, GSt N w b A F → Calls Tryz.prog f xs w fun e w' => Q e ∧ After N' b A' F w w') :
    Calls Tryz.prog f xs w fun e w' => Q e ∧ HAt O N' w' b A' ∧ Keeps (fun k => ¬ O k) w w' := by
  obtain ⟨F, h1, h2⟩ := h
  refine (hc F h1).mono ?_
  rintro e w' ⟨q, ha⟩
  exact ⟨q, HAt.of ha h2 hO⟩

theorem begin_h {O : Nat → Prop} {N : Nat} {w : World} {b : Nat} {A : Gst} (h : HAt O N w b A) (hO : ∀ k, O k → k < w.heap.size) (hN : N ≤ 100000000000) (hl : A.works.length < 8) :
    Calls Tryz.prog 16 #[.pointer (some ⟨b, 0, none⟩)] w fun e w' => e = .returned (.tuple #[.int .i64 (A.begun + 1), .int .i64 0]) ∧ HAt O (N + 1) w' b A.opened ∧ Keeps (fun k => ¬ O k) w w' := by
  obtain ⟨e1, e2⟩ := Gok.begin_ hl
  have := h.call hO (fun F hF => begin_g hF hN)
  rw [e1, e2] at this
  exact this

theorem put_h {O : Nat → Prop} {N : Nat} {w : World} {b : Nat} {A : Gst} {key val : ByteArray} (h : HAt O N w b A.opened) (ok : Gok A) (hO : ∀ k, O k → k < w.heap.size) (hk : keyB key = true) (hv : valB val = true) :
    Calls Tryz.prog 17 #[.pointer (some ⟨b, 0, none⟩), .int .i64 (A.begun + 1), .string key, .string val] w fun e w' => e = .returned (.int .i64 0) ∧ HAt O N w' b (A.step1 key val false) ∧ Keeps (fun k => ¬ O k) w w' := by
  obtain ⟨e1, e2⟩ := ok.write_ false hk hv
  have h1 : key.size ≤ maxLen := by unfold keyB at hk; simp at hk; unfold maxLen; omega
  have h2 : val.size ≤ maxLen := by unfold valB at hv; simp at hv; unfold maxLen; omega
  have := h.call hO (fun F hF => put_g (A.begun + 1) key val hF h1 h2)
  rw [e1, e2] at this
  exact this

theorem delete_h {O : Nat → Prop} {N : Nat} {w : World} {b : Nat} {A : Gst} {key : ByteArray} (h : HAt O N w b A.opened) (ok : Gok A) (hO : ∀ k, O k → k < w.heap.size) (hk : keyB key = true) :
    Calls Tryz.prog 21 #[.pointer (some ⟨b, 0, none⟩), .int .i64 (A.begun + 1), .string key] w fun e w' => e = .returned (.int .i64 0) ∧ HAt O N w' b (A.step1 key ByteArray.empty true) ∧ Keeps (fun k => ¬ O k) w w' := by
  obtain ⟨e1, e2⟩ := ok.write_ (val := ByteArray.empty) true hk (by decide +kernel)
  have h1 : key.size ≤ maxLen := by unfold keyB at hk; simp at hk; unfold maxLen; omega
  have := h.call hO (fun F hF => delete_g (A.begun + 1) key hF h1)
  rw [e1, e2] at this
  exact this

theorem commit_h {O : Nat → Prop} {N : Nat} {w : World} {b : Nat} {A : Gst} {key val : ByteArray} {gone : Bool} (h : HAt O N w b (A.step1 key val gone)) (ok : Gok A) (hO : ∀ k, O k → k < w.heap.size) (hN : N ≤ 100000000000) (hn : A.now < 1000000000) :
    Calls Tryz.prog 18 #[.pointer (some ⟨b, 0, none⟩), .int .i64 (A.begun + 1)] w fun e w' => e = .returned (.tuple #[.int .i64 (A.now + 1), .int .i64 0]) ∧ HAt O (N + 30) w' b (A.wrote1 key val gone) ∧ Keeps (fun k => ¬ O k) w w' := by
  obtain ⟨e1, e2⟩ := ok.commit_ key val gone hn
  have := h.call hO (fun F hF => commit_g (A.begun + 1) hF hN)
  rw [e1, e2] at this
  exact this

theorem abort_h {O : Nat → Prop} {N : Nat} {w : World} {b : Nat} {A : Gst} (h : HAt O N w b A.opened) (ok : Gok A) (hO : ∀ k, O k → k < w.heap.size) :
    Calls Tryz.prog 27 #[.pointer (some ⟨b, 0, none⟩), .int .i64 (A.begun + 1)] w fun e w' => e = .returned (.int .i64 0) ∧ HAt O N w' b A.asked1 ∧ Keeps (fun k => ¬ O k) w w' := by
  obtain ⟨e1, e2⟩ := ok.abort_
  have := h.call hO (fun F hF => abort_g (A.begun + 1) hF)
  rw [e1, e2] at this
  exact this

theorem scan_h {O : Nat → Prop} {N : Nat} {w : World} {b : Nat} {A : Gst} (h : HAt O N w b A.opened) (ok : Gok A) (hN : N ≤ 100000000000) :
    Calls Tryz.prog 26 #[.pointer (some ⟨b, 0, none⟩), .int .i64 (A.begun + 1), .string ⟨#[]⟩, .int .i64 (-1)] w fun e w' => ∃ v, e = .returned (.tuple #[v, .int .i64 0]) ∧
      Row w' 88 2 v (A.pairs A.now).length ((A.pairs A.now).flatMap pairCells) ∧ (∀ g, v.ownBlock = some g → w.heap.size ≤ g) ∧ HAt O N w' b A.opened ∧ Keeps (fun _ => False) w w' := by
  obtain ⟨F, h1, h2⟩ := h
  have := scan_g (A.begun + 1) ⟨#[]⟩ (-1) h1 hN (by omega) (by omega)
  rw [ok.scan_] at this
  refine this.mono ?_
  rintro e w' ⟨v, q1, q2, q3, q4, q5⟩
  exact ⟨v, q1, q2, q3, ⟨F, q4, h2⟩, q5⟩

/-- what write leaves -/
def WriteG (O : Nat → Prop) (N : Nat) (b : Nat) (A : Gst) (what key : Int) (val : ByteArray) (w : World) (e : Ending) (w' : World) : Prop :=
  e = .returned (.bool true) ∧ HAt O (N + 31) w' b (A.wrote1 (keyZ (pickZ key 12)) (if pickZ what 4 = 3 then ByteArray.empty else val.extract 0 40) (decide (pickZ what 4 = 3))) ∧ Keeps (fun k => ¬ O k) w w'

set_option maxRecDepth 100000 in
set_option maxHeartbeats 800000 in
theorem writeG_put {O : Nat → Prop} {N : Nat} {w : World} {b : Nat} {A : Gst} (what key : Int) (val : ByteArray) (h : HAt O N w b A) (hO : ∀ k, O k → k < w.heap.size) (hl : A.works.length < 8) (hnow : A.now < 1000000000) (hN : N ≤ 99999999999)
    (hw : -9223372036854775808 ≤ what ∧ what ≤ 9223372036854775807) (hk : -9223372036854775808 ≤ key ∧ key ≤ 9223372036854775807) (hv : val.size ≤ maxLen) (hne : ¬ pickZ what 4 = 3) :
    Calls Tryz.prog 5 #[.pointer (some ⟨b, 0, none⟩), .agg #[.int .i64 what, .int .i64 key, .string val]] w (WriteG O N b A what key val w) := by
  have hs := h.ok
  have hb0 := hs.begun
  have HO' : Hid (∀ k, (O k ∨ k = w.heap.size) → k < w.heap.size + 1) := fun k hk => by
    rcases hk with hk | hk
    · have := hO k hk; omega
    · omega
  have hb1 := begin_h (((h.more (Nat.le_refl _) (O' := fun k => O k ∨ k = w.heap.size) (fun k hk => hk.imp id (fun e => by omega))).kept ((Keeps.refl (fun _ => False) w).al (.cells #[.int .i64 what, .int .i64 key, .string val] 27)) (fun _ _ h => h.elim))) (fun k hk => by simpa using HO'.out k hk) (by omega) hl
  have HB := hid hb1
  have HP1 := hid (fun W => pick_any what 4 W hw ⟨by decide, by decide⟩)
  have HP2 := hid (fun W => pick_any key 12 W hk ⟨by decide, by decide⟩)
  have HC := hid (fun W => cut_any val W hv)
  obtain ⟨hp0, hp1⟩ := pick_lt key (n := 12) (by decide)
  have HK := hid (fun W => key_any (pickZ key 12) W ⟨hp0, hp1⟩)
  have HV := hid (cut_ok val)
  have HKK := hid (key_ok hp0 hp1)
  have HS := hid hs
  have HH := hid hO
  have HNOW := hid hnow
  have HNN := hid hN
  generalize hkz : pickZ key 12 = kz at *
  have HKZ := hid hkz
  generalize hvx : val.extract 0 40 = vx at *
  have HVX := hid hvx
  clear hb1 hw hk hv hs hp0 hp1 hO h hl hnow hkz hvx hN hb0
  go_enter Tryz.func5, Tryz.ntmps5
  go_wp2_with (first
    | (go_at_call 16; go_must (refine (HB.out).mono ?_; rintro e w1 ⟨rfl, s1, k1⟩; obtain ⟨q0, q1, q2, -⟩ := three_cells (box_kept k1 (fun h => h (.inr rfl)))))
    | (go_at_call 20; go_must (refine (HP1.out _).mono ?_; rintro e w1 ⟨rfl, rfl⟩)))
  have hz1 := k1.size
  simp at hz1
  have HPUT := hid (fun W (hW : Keeps (fun _ => False) w1 W) => put_h (key := keyZ kz) (val := vx) (s1.kept hW (fun _ _ h => h.elim)) HS.out (fun k hk => by have := HO'.out k hk; have := hW.size; omega) HKK.out HV.out)
  have K1 := hid k1
  have HZ1 := hid hz1
  clear s1 k1 hz1
  go_region_held3 (fun W => W.cell? ⟨w.heap.size, 1, none⟩ = some (.int .i64 key) ∧ W.cell? ⟨w.heap.size, 2, none⟩ = some (.string val)) (go_keep) (first
    | (go_at_call 20; refine (HP2.out _).mono ?_; rintro e wp ⟨rfl, rfl⟩)
    | (go_at_call 22; refine (HK.out _).mono ?_; rintro e w2 ⟨rfl, k2⟩; have k2' : Keeps (fun _ => False) w1 w2 := (Keeps.drew _ _).tr k2 (fun _ h => h); have r1 := k2'.cell (p := ⟨w.heap.size, 1, none⟩) q1 (fun h => h); have r2 := k2'.cell (p := ⟨w.heap.size, 2, none⟩) q2 (fun h => h))
    | (go_at_call 23; refine (HC.out _).mono ?_; rintro e wp ⟨rfl, rfl⟩)
    | (go_at_call 17; refine (HPUT.out _ k2').mono ?_; rintro e w3 ⟨rfl, s3, k3⟩; have p1 := k3.cell (p := ⟨w.heap.size, 1, none⟩) r1 (fun h => h (.inr rfl)); have p2 := k3.cell (p := ⟨w.heap.size, 2, none⟩) r2 (fun h => h (.inr rfl))))
  have hz1 := HZ1.out
  have hz2 := k2'.size
  have hz3 := k3.size
  have HCOM := hid (commit_h s3 HS.out (fun k hk => by have := HO'.out k hk; omega) (by have := HNN.out; omega) HNOW.out)
  have K3 := hid k3
  have K2 := hid k2'
  clear s3 k3 k2 k2' r1 r2 p1 p2 q0 q1 q2 hz1 hz2 hz3
  go_wp2_with (go_at_call 18; go_must (refine (HCOM.out).mono ?_; rintro e w4 ⟨rfl, s4, k4⟩))
  go_ret
  refine ⟨rfl, ?_, ?_⟩
  · simp only [if_neg hne, decide_eq_false hne, HKZ.out, HVX.out]
    exact s4.more (Nat.le_refl _) (fun k hk => .inl (.inl hk))
  · have t1 : Keeps (fun k => ¬ O k) w w1 := ((Keeps.refl _ w).al _).trans K1.out (fun k _ hk ho => hk (.inl ho))
    have t2 : Keeps (fun k => ¬ O k) w wp := t1.trans K2.out (fun k _ hk => hk.elim)
    have t3 : Keeps (fun k => ¬ O k) w w3 := t2.trans K3.out (fun k _ hk ho => hk (.inl ho))
    exact t3.trans k4 (fun k _ hk ho => hk (.inl ho))

set_option maxRecDepth 100000 in
set_option maxHeartbeats 800000 in
theorem writeG_del {O : Nat → Prop} {N : Nat} {w : World} {b : Nat} {A : Gst} (what key : Int) (val : ByteArray) (h : HAt O N w b A) (hO : ∀ k, O k → k < w.heap.size) (hl : A.works.length < 8) (hnow : A.now < 1000000000) (hN : N ≤ 99999999999)
    (hw : -9223372036854775808 ≤ what ∧ what ≤ 9223372036854775807) (hk : -9223372036854775808 ≤ key ∧ key ≤ 9223372036854775807) (hne : pickZ what 4 = 3) :
    Calls Tryz.prog 5 #[.pointer (some ⟨b, 0, none⟩), .agg #[.int .i64 what, .int .i64 key, .string val]] w (WriteG O N b A what key val w) := by
  have hs := h.ok
  have HO' : Hid (∀ k, (O k ∨ k = w.heap.size) → k < w.heap.size + 1) := fun k hk => by
    rcases hk with hk | hk
    · have := hO k hk; omega
    · omega
  have hb1 := begin_h (((h.more (Nat.le_refl _) (O' := fun k => O k ∨ k = w.heap.size) (fun k hk => hk.imp id (fun e => by omega))).kept ((Keeps.refl (fun _ => False) w).al (.cells #[.int .i64 what, .int .i64 key, .string val] 27)) (fun _ _ h => h.elim))) (fun k hk => by simpa using HO'.out k hk) (by omega) hl
  have HB := hid hb1
  have HP1 := hid (fun W => pick_any what 4 W hw ⟨by decide, by decide⟩)
  have HP2 := hid (fun W => pick_any key 12 W hk ⟨by decide, by decide⟩)
  obtain ⟨hp0, hp1⟩ := pick_lt key (n := 12) (by decide)
  have HK := hid (fun W => key_any (pickZ key 12) W ⟨hp0, hp1⟩)
  have HKK := hid (key_ok hp0 hp1)
  have HS := hid hs
  have HH := hid hO
  have HNOW := hid hnow
  have HNN := hid hN
  generalize hkz : pickZ key 12 = kz at *
  have HKZ := hid hkz
  have HNE := hid hne
  have hP : ∀ W, Calls Tryz.prog 20 #[.int .i64 what, .int .i64 4] W fun e w' => e = .returned (.int .i64 3) ∧ w' = W := fun W => by have := HP1.out W; rwa [hne] at this
  have HP3 := hid hP
  clear hb1 hw hk hs hp0 hp1 hO h hl hnow hne hP HP1 hkz hN
  go_enter Tryz.func5, Tryz.ntmps5
  go_wp2_with (go_at_call 16; go_must (refine (HB.out).mono ?_; rintro e w1 ⟨rfl, s1, k1⟩; obtain ⟨q0, q1, q2, -⟩ := three_cells (box_kept k1 (fun h => h (.inr rfl)))))
  refine (HP3.out _).mono ?_
  rintro e w1 ⟨rfl, rfl⟩
  have hz1 := k1.size
  simp at hz1
  have HDEL := hid (fun W (hW : Keeps (fun _ => False) w1 W) => delete_h (key := keyZ kz) (s1.kept hW (fun _ _ h => h.elim)) HS.out (fun k hk => by have := HO'.out k hk; have := hW.size; omega) HKK.out)
  have K1 := hid k1
  have HZ1 := hid hz1
  clear s1 k1 hz1
  go_wp2_with (first
    | (go_at_call 20; go_must (refine (HP2.out _).mono ?_; rintro e w1 ⟨rfl, rfl⟩))
    | (go_at_call 22; go_must (refine (HK.out _).mono ?_; rintro e w2 ⟨rfl, k2⟩))
    | (go_at_call 21; go_must (refine (HDEL.out _ k2).mono ?_; rintro e w3 ⟨rfl, s3, k3⟩; have hz1 := HZ1.out; have hz2 := k2.size; have hz3 := k3.size; have HCOM := hid (commit_h s3 HS.out (fun k hk => by have := HO'.out k hk; omega) (by have := HNN.out; omega) HNOW.out); have K3 := hid k3; have K2 := hid k2; clear s3 k3 k2 q0 q1 q2 hz1 hz2 hz3))
    | (go_at_call 18; go_must (refine (HCOM.out).mono ?_; rintro e w4 ⟨rfl, s4, k4⟩)))
  go_ret
  refine ⟨rfl, ?_, ?_⟩
  · simp only [if_pos HNE.out, decide_eq_true HNE.out, HKZ.out]
    exact s4.more (Nat.le_refl _) (fun k hk => .inl (.inl hk))
  · have t1 : Keeps (fun k => ¬ O k) w w1 := ((Keeps.refl _ w).al _).trans K1.out (fun k _ hk ho => hk (.inl ho))
    have t2 : Keeps (fun k => ¬ O k) w w2 := t1.trans K2.out (fun k _ hk => hk.elim)
    have t3 : Keeps (fun k => ¬ O k) w w3 := t2.trans K3.out (fun k _ hk ho => hk (.inl ho))
    exact t3.trans k4 (fun k _ hk ho => hk (.inl ho))

theorem writeG_any {O : Nat → Prop} {N : Nat} {w : World} {b : Nat} {A : Gst} (what key : Int) (val : ByteArray) (h : HAt O N w b A) (hO : ∀ k, O k → k < w.heap.size) (hl : A.works.length < 8) (hnow : A.now < 1000000000) (hN : N ≤ 99999999999)
    (hw : -9223372036854775808 ≤ what ∧ what ≤ 9223372036854775807) (hk : -9223372036854775808 ≤ key ∧ key ≤ 9223372036854775807) (hv : val.size ≤ maxLen) :
    Calls Tryz.prog 5 #[.pointer (some ⟨b, 0, none⟩), .agg #[.int .i64 what, .int .i64 key, .string val]] w (WriteG O N b A what key val w) := by
  by_cases hne : pickZ what 4 = 3
  · exact writeG_del what key val h hO hl hnow hN hw hk hne
  · exact writeG_put what key val h hO hl hnow hN hw hk hv hne

end Go.Proofs.YtgianpccgcjmjaaGreatDoor

/- same: of two lists that are the same. -/
namespace Go.Proofs.YtgianpccgcjmjaaGreatDoor
open Go.RowKit Go.Shelf

theorem pairs_at : ∀ (ps : List (ByteArray × ByteArray)) (j r : Nat) (hj : j < ps.length), r < 2 → (ps.flatMap pairCells)[j * 2 + r]? = (pairCells ps[j])[r]?
  | [], j, r, hj, _ => by simp at hj
  | p :: ps, 0, r, _, hr => by
    have : r < (pairCells p).length := by simp [pairCells]; omega
    simp [List.getElem?_append_left this]
  | p :: ps, j + 1, r, hj, hr => by
    have ih := pairs_at ps j r (by simpa using hj) hr
    have e : (j + 1) * 2 + r = (pairCells p).length + (j * 2 + r) := by simp [pairCells]; omega
    rw [List.flatMap_cons, e, List.getElem?_append_right (by omega), Nat.add_sub_cancel_left, ih]
    simp

theorem pairs_length (ps : List (ByteArray × ByteArray)) : (ps.flatMap pairCells).length = ps.length * 2 := by
  induction ps with
  | nil => rfl
  | cons p ps ih => simp [pairCells, ih]; omega

theorem Row.pair {w : World} {g cap : Nat} {ps : List (ByteArray × ByteArray)} (h : Row w 88 2 (.slice (some ⟨g, 0, none⟩) ps.length cap) ps.length (ps.flatMap pairCells)) (j : Nat) (hj : j < ps.length) :
    w.cell? ⟨g, j * 2, none⟩ = some (.string ps[j].1) ∧ w.cell? ⟨g, j * 2 + 1, none⟩ = some (.string ps[j].2) := by
  have h0 := h.cellAt (j * 2) (by omega)
  have h1 := h.cellAt (j * 2 + 1) (by omega)
  have p0 := pairs_at ps j 0 hj (by omega)
  have p1 := pairs_at ps j 1 hj (by omega)
  rw [Nat.add_zero] at p0
  exact ⟨by rw [h0, p0]; rfl, by rw [h1, p1]; rfl⟩

set_option maxRecDepth 100000 in
set_option maxHeartbeats 800000 in
theorem same_eq (va vb : Value) (ps : List (ByteArray × ByteArray)) (w : World) (ha : Row w 88 2 va ps.length (ps.flatMap pairCells)) (hb : Row w 88 2 vb ps.length (ps.flatMap pairCells)) :
    Calls Tryz.prog 12 #[va, vb] w fun e w' => e = .returned (.bool true) ∧ Keeps (fun _ => False) w w' := by
  obtain ⟨oa, ca, rfl, hm, sa⟩ := ha.form
  obtain ⟨ob, cb, rfl, -, sb⟩ := hb.form
  have HA := hid ha
  have HB := hid hb
  have SA := hid sa
  have SB := hid sb
  unfold maxLen at hm
  clear ha hb sa sb
  go_enter Tryz.func12, Tryz.ntmps12
  go_wp2_with fail
  go_loopw [5] (fun i wr => ∃ k : Nat, k ≤ ps.length ∧ i = .int .i64 k ∧ Keeps (fun _ => False) w wr) (fun i _ => ps.length - (intOf i).toNat)
  case atStart => exact ⟨0, Nat.zero_le _, rfl, Keeps.refl _ _⟩
  case round =>
    obtain ⟨k, hk, rfl, hkr⟩ := hrel
    by_cases hlt : k < ps.length
    · obtain ⟨ga, rfl⟩ := SA.out (by omega)
      obtain ⟨gb, rfl⟩ := SB.out (by omega)
      obtain ⟨a0, a1⟩ := (HA.out.kept hkr (fun _ _ h => h)).pair k hlt
      obtain ⟨b0, b1⟩ := (HB.out.kept hkr (fun _ _ h => h)).pair k hlt
      generalize ps[k].1 = x at a0 b0
      generalize ps[k].2 = y at a1 b1
      have HKR := hid hkr
      clear hkr SA SB HA HB
      go_wp2_with fail
      go_region
      go_wp2
      exact ⟨⟨k + 1, by omega, by go_num, HKR.out.dr⟩, by simp only [intOf]; omega⟩
    · go_wp2
      go_ret
      exact ⟨rfl, hkr⟩

end Go.Proofs.YtgianpccgcjmjaaGreatDoor

/- annalskeep's all and begun, of a store told by what can be asked of it. -/
namespace Go.Proofs.YtgianpccgcjmjaaGreatDoor
open Go.RowKit Go.Shelf

/-- a list of pairs -/
def PairsAt (w : World) (v : Value) (ps : List (ByteArray × ByteArray)) : Prop := Row w 88 2 v ps.length (ps.flatMap pairCells)

/-- what all leaves -/
def AllG (O : Nat → Prop) (N : Nat) (b : Nat) (A : Gst) (w : World) (e : Ending) (w' : World) : Prop :=
  ∃ v, e = .returned (.tuple #[v, .bool true]) ∧ PairsAt w' v (A.pairs A.now) ∧ (∀ g, v.ownBlock = some g → w.heap.size ≤ g) ∧ HAt (fun k => O k ∨ v.ownBlock = some k) (N + 1) w' b A.asked1 ∧ Keeps (fun k => ¬ O k) w w'

set_option maxRecDepth 100000 in
set_option maxHeartbeats 800000 in
theorem all_any {O : Nat → Prop} {N : Nat} {w : World} {b : Nat} {A : Gst} (h : HAt O N w b A) (hO : ∀ k, O k → k < w.heap.size) (hl : A.works.length < 8) (hN : N ≤ 99999999999) :
    Calls Tryz.prog 7 #[.pointer (some ⟨b, 0, none⟩)] w (AllG O N b A w) := by
  have HS := hid h.ok
  have HB := hid (begin_h h hO (by omega) hl)
  have HO := hid hO
  have HN := hid hN
  have hb0 := h.ok.begun
  clear h hO hl hN
  go_enter Tryz.func7, Tryz.ntmps7
  go_wp2_with fail
  refine HB.out.mono ?_
  rintro e w1 ⟨rfl, s1, k1⟩
  have HSC := hid (scan_h s1 HS.out (by have := HN.out; omega))
  have S1 := hid s1
  have K1 := hid k1
  clear s1 k1 HB
  go_wp2_with fail
  refine HSC.out.mono ?_
  rintro e w2 ⟨v, rfl, row, own, -, k2⟩
  have hz := K1.out.size
  have hO2 : ∀ k, (O k ∨ v.ownBlock = some k) → k < w2.heap.size := fun k hk => by
    rcases hk with hk | hk
    · have := HO.out k hk
      have := k2.size
      omega
    · exact row.lt hk
  have HA := hid (abort_h (((S1.out.more (Nat.le_refl _) (O' := fun k => O k ∨ v.ownBlock = some k) (fun k hk => hk.imp id (own k))).kept k2 (fun _ _ h => h.elim))) HS.out hO2)
  have ROW := hid row
  have OWN := hid own
  have K2 := hid k2
  have HZ := hid hz
  clear row own k2 hz hO2 HSC
  go_wp2_with fail
  refine HA.out.mono ?_
  rintro e w3 ⟨rfl, s3, k3⟩
  have S3 := hid s3
  have K3 := hid k3
  clear s3 k3 HA
  go_wp2
  go_ret2
  refine ⟨v, rfl, ROW.out.kept K3.out (fun k hk h => h (.inr hk)), fun g hg => by have := OWN.out g hg; have := HZ.out; omega, S3.out, ?_⟩
  exact (K1.out.trans K2.out (fun k _ h => h.elim)).trans K3.out (fun k _ h ho => h (.inl ho))

set_option maxRecDepth 100000 in
set_option maxHeartbeats 800000 in
theorem begunG_any (w : World) :
    Calls Tryz.prog 4 #[] w fun e w' => ∃ b, e = .returned (.pointer (some ⟨b, 0, none⟩)) ∧ w.heap.size ≤ b ∧ HAt (fun k => k < w.heap.size) 0 w' b Gst.zero ∧ Keeps (fun _ => False) w w' := by
  have HN := hid (fun W => new_any W)
  go_enter Tryz.func4, Tryz.ntmps4
  go_wp2_with fail
  refine (HN.out _).mono ?_
  rintro e w1 ⟨rfl, t1, k1⟩
  have T1 := hid t1
  have K1 := hid k1
  clear t1 k1
  go_wp2_with fail
  refine (HN.out _).mono ?_
  rintro e w2 ⟨rfl, t2, k2⟩
  have hne : w.heap.size ≠ w1.heap.size := by have := T1.out.lt; simp [Rep.zero] at this; omega
  have HS := hid (begun_calls (O := fun k => k < w.heap.size ∨ k = w1.heap.size) (sat_zero (K := [kB]) (T1.out.kept k2 (fun _ _ h => h)) (by omega)) (fun k hk => by
    have z1 := K1.out.size
    have z2 := t2.lt
    simp [Rep.zero] at z2
    omega))
  have T2 := hid t2
  have K2 := hid k2
  clear t2 k2
  go_wp2_with fail
  refine (HS.out).mono ?_
  rintro e w3 ⟨rfl, _, c3⟩
  have HC := hid c3
  clear c3 HS
  go_wp2_with fail
  refine (HC.out).mono ?_
  rintro e w4 ⟨rfl, _, c4⟩
  have HC4 := hid c4
  clear c4 HC
  go_wp2_with fail
  refine (HC4.out).mono ?_
  rintro e w5 ⟨rfl, _, c5⟩
  have HC5 := hid c5
  clear c5 HC4
  go_wp2_with fail
  refine (HC5.out).mono ?_
  rintro e w6 ⟨rfl, _, c6⟩
  have HC6 := hid c6
  clear c6 HC5
  go_wp2_with fail
  refine (HC6.out).mono ?_
  rintro e w7 ⟨rfl, k7⟩
  have K7 := hid k7
  clear k7 HC6
  go_wp2
  go_ret
  have z1 := K1.out.size
  refine ⟨_, rfl, z1, ?_, ?_⟩
  · have h0 : w2.heap[w1.heap.size]? = some (.cells (topCells (Rep.zero w1.heap.size)) 62 (0, 0)) := T2.out.top
    have h1 := (K7.out.block w1.heap.size (Array.getElem?_eq_some_iff.1 h0).1 (fun h => h (.inr rfl))).trans h0
    exact ⟨[w1.heap.size], ⟨Rep.zero w1.heap.size, ⟨storeAt_zero h1, good_zero _, tied_zero _, Int.le_refl _, by simp [Rep.zero], by simp [Rep.zero], by simp [Rep.zero, Rep.total], fun p hp => (by cases hp), by simp [Rep.zero, Rep.pinSum], by simp [Rep.zero], fun p hp => (by cases hp), by simp [Rep.zero]⟩, rfl, rfl, by simp [Rep.zero, Rep.fp, Rep.fpWorks, Rep.fpPast, pcOf, Value.ownBlock]⟩, fun k hk hlt => by simp at hk; omega⟩
  · exact (K1.out.tr K2.out (fun _ h => h)).trans K7.out (fun k hk h => h (.inl hk))

end Go.Proofs.YtgianpccgcjmjaaGreatDoor
