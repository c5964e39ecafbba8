import Derived.Test.YtgianpccgcjmjaaGreatDoorM29

/- Scan, Pin, Unpin, Sweep, Look, from outside, with every answer. -/
namespace Go.Proofs.YtgianpccgcjmjaaGreatDoor
open Go.RowKit Go.Shelf

/-- what a work sees from a key on -/
def Gst.seen (A : Gst) (bg : Int) (ws : List (ByteArray × Ver)) (from_ : ByteArray) : List (ByteArray × ByteArray) :=
  ((insAll A.keys (ws.map (·.1))).filter (fun k => !ltK k from_)).filterMap (pairOf ws A.vers bg)
def Gst.scanR (A : Gst) (n : Int) (from_ : ByteArray) (most : Int) : List (ByteArray × ByteArray) × Int :=
  match look A.works n with
  | none => ([], 1)
  | some x => if from_.size ≤ 10 then (takeM most (A.seen x.1 x.2 from_), 0) else ([], 2)

theorem scan_g {N : Nat} {w : World} {b : Nat} {A : Gst} {F : List Nat} (n : Int) (from_ : ByteArray) (most : Int) (h : GSt N w b A F) (hN : N ≤ 100000000000) (hm1 : -9223372036854775808 ≤ most) (hm2 : most ≤ 9223372036854775807) :
    Calls Tryz.prog 26 #[.pointer (some ⟨b, 0, none⟩), .int .i64 n, .string from_, .int .i64 most] w fun e w' => ∃ v, e = .returned (.tuple #[v, .int .i64 (A.scanR n from_ most).2]) ∧
      Row w' 88 2 v (A.scanR n from_ most).1.length ((A.scanR n from_ most).1.flatMap pairCells) ∧ (∀ g, v.ownBlock = some g → w.heap.size ≤ g) ∧ GSt N w' b A F ∧ Keeps (fun _ => False) w w' := by
  have hG := h
  obtain ⟨R, hi, rfl, rfl, rfl⟩ := h
  unfold Gst.scanR
  rw [gst_look]
  cases hx : look R.works n with
  | none =>
    refine (scan_none R n from_ most w hi.st hx).mono ?_
    rintro e w' ⟨rfl, h1⟩
    exact ⟨_, rfl, Row.nil _ _ _, fun g hg => by simp [Value.ownBlock] at hg, hG.kept h1 (fun _ _ h => h), h1⟩
  | some x =>
    simp only [Option.map_some]
    by_cases hs : from_.size ≤ 10
    · rw [if_pos hs]
      have hkn := hi.keysN
      refine (scan_from R n x from_ most w hi.st hi.good hi.tied hx (by omega) hs hm1 hm2).mono ?_
      rintro e w' ⟨v, xs, kw, rfl, hkw, hp, hM, hrow, hown, hk⟩
      have e1 : xs = (insAll R.keys (x.writes.map (·.1))).filter (fun k => !ltK k from_) := by
        refine rises_ext hM.come ((insAll_rises _ hi.tied.rises).sublist List.filter_sublist) (fun k => ?_)
        have := hM.all k
        simp only [List.not_mem_nil, or_false] at this
        rw [this, drop_below hi.tied.rises, drop_below hkw, List.mem_filter, List.mem_filter, List.mem_filter, insAll_mem, hp.mem_iff]
        constructor
        · rintro (h | h)
          · exact ⟨.inl h.1, h.2⟩
          · exact ⟨.inr h.1, h.2⟩
        · rintro ⟨h | h, h2⟩
          · exact .inl ⟨h, h2⟩
          · exact .inr ⟨h, h2⟩
      rw [e1] at hrow
      exact ⟨v, rfl, hrow, hown, hG.kept hk (fun _ _ h => h), hk⟩
    · rw [if_neg hs]
      refine (scan_text R n x from_ most w hi.st hx (by omega)).mono ?_
      rintro e w' ⟨rfl, h1⟩
      exact ⟨_, rfl, Row.nil _ _ _, fun g hg => by simp [Value.ownBlock] at hg, hG.kept h1 (fun _ _ h => h), h1⟩

theorem sum_put : ∀ (l : List (Int × Int)) (s v : Int), ((put l s v).map (·.2)).sum = (l.map (·.2)).sum - (look l s).getD 0 + v
  | [], s, v => by simp [put, look]
  | (a, x) :: r, s, v => by
    unfold put look
    by_cases e : a = s
    · rw [if_pos e, if_pos e]
      simp
      omega
    · rw [if_neg e, if_neg e]
      have := sum_put r s v
      simp only [List.map_cons, List.sum_cons, this]
      omega

theorem sum_delI : ∀ (l : List (Int × Int)) (s : Int), ((del l s).map (·.2)).sum = (l.map (·.2)).sum - (look l s).getD 0
  | [], s => by simp [del, look]
  | (a, x) :: r, s => by
    unfold del look
    by_cases e : a = s
    · rw [if_pos e, if_pos e]
      simp
      omega
    · rw [if_neg e, if_neg e]
      have := sum_delI r s
      simp only [List.map_cons, List.sum_cons, this]
      omega

theorem look_le_sum : ∀ {l : List (Int × Int)} (s : Int), (∀ p ∈ l, 1 ≤ p.2 ∧ 0 ≤ p.1) → 0 ≤ (look l s).getD 0 ∧ (look l s).getD 0 ≤ (l.map (·.2)).sum
  | [], s, _ => by simp [look]
  | (a, x) :: r, s, h => by
    have h1 := h (a, x) (by simp)
    have h2 := look_le_sum (l := r) s (fun p hp => h p (by simp [hp]))
    unfold look
    simp only at h1
    by_cases e : a = s
    · rw [if_pos e]
      simp only [Option.getD_some, List.map_cons, List.sum_cons]
      omega
    · rw [if_neg e]
      simp only [List.map_cons, List.sum_cons]
      omega

theorem GInv.pinned {N N' : Nat} {w w' : World} {R : Rep} {pins : List (Int × Int)} {pm : Option Nat} (h : GInv N w R) (hN : N ≤ N') (hs : StoreAt w' { R with pm := pm, pins := pins }) (hp : ∀ p ∈ pins, 1 ≤ p.2 ∧ 0 ≤ p.1) (hpN : (pins.map (·.2)).sum ≤ N') : GInv N' w' { R with pm := pm, pins := pins } :=
  ⟨hs, ⟨h.good.now, h.good.begun, h.good.works8, h.good.numbers, h.good.began, h.good.writes30, h.good.wkeys, h.good.rising, h.good.states, h.good.filled, h.good.hkeys, h.good.hvals, h.good.sorted, h.good.keys⟩, ⟨h.tied.rises, h.tied.keys, h.tied.filled⟩, h.floor,
    by have := h.begunN; show R.begun ≤ _; omega, by have := h.keysN; show R.keys.length ≤ _; omega, by have := h.totN; show R.total ≤ _; omega, hp, hpN, ⟨h.startN.1, by have := h.startN.2; show R.started ≤ _; omega⟩, h.cops, h.cops4⟩

theorem fp_pins {R : Rep} {pm : Option Nat} {pins : List (Int × Int)} {n : Nat} (h : pm = R.pm ∨ ∃ q, pm = some q ∧ n ≤ q) : ∀ k ∈ Rep.fp { R with pm := pm, pins := pins }, k ∈ R.fp ∨ n ≤ k := fun k hk => by
  rcases h with rfl | ⟨q, rfl, hq⟩
  · exact .inl hk
  · rw [(fp_split _).mem_iff] at hk
    rw [(fp_split R).mem_iff]
    simp only [pcOf, List.mem_cons, List.mem_append, Option.toList_some] at hk ⊢
    rcases hk with h | (h | h) | h
    · exact .inl (.inl h)
    · right
      simp at h
      omega
    · exact .inl (.inr (.inl (.inr h)))
    · exact .inl (.inr (.inr h))

/-- Pin -/
def Gst.hasB (A : Gst) (s : Int) : Bool := decide (A.floor ≤ s) && decide (s ≤ A.now)
def Gst.pinR (A : Gst) (s : Int) : Int := if A.hasB s = true then 0 else 5
def Gst.pinS (A : Gst) (s : Int) : Gst := if A.hasB s = true then { A with pins := put A.pins s ((look A.pins s).getD 0 + 1) } else A

theorem mem_putI {l : List (Int × Int)} {s v : Int} {p : Int × Int} (hn : (l.map (·.1)).Nodup) (h : p ∈ put l s v) : p = (s, v) ∨ p ∈ l := by
  rcases mem_put hn h with h | ⟨h, _⟩
  · exact .inl h
  · exact .inr h

theorem pin_g {N : Nat} {w : World} {b : Nat} {A : Gst} {F : List Nat} (s : Int) (h : GSt N w b A F) (hN : N ≤ 100000000000) :
    Calls Tryz.prog 8 #[.pointer (some ⟨b, 0, none⟩), .int .i64 s] w fun e w' => e = .returned (.int .i64 (A.pinR s)) ∧ After (N + 1) b (A.pinS s) F w w' := by
  have hG := h
  obtain ⟨R, hi, rfl, rfl, rfl⟩ := h
  have hhb : R.gst.hasB s = (decide (R.floor ≤ s) && decide (s ≤ R.now)) := rfl
  unfold Gst.pinR Gst.pinS
  cases hb : (decide (R.floor ≤ s) && decide (s ≤ R.now)) with
  | false =>
    rw [hhb, hb]
    refine (pin_bad R s w hi.st hb).mono ?_
    rintro e w' ⟨rfl, h1⟩
    exact ⟨rfl, hG.after (by omega) h1⟩
  | true =>
    rw [hhb, hb]
    simp only [if_true]
    have hlk := look_le_sum s hi.pins
    have hps := hi.pinsN
    unfold Rep.pinSum at hps
    have hs0 : 0 ≤ s := by have h1 := (Bool.and_eq_true_iff.1 hb).1; have h2 := of_decide_eq_true h1; have := hi.floor; omega
    have hcall : Calls Tryz.prog 8 #[.pointer (some ⟨R.sb, 0, none⟩), .int .i64 s] w fun e w' => e = .returned (.int .i64 0) ∧ PinPost R (put R.pins s ((look R.pins s).getD 0 + 1)) w w' := by
      cases hpm : R.pm with
      | some b0 => exact pin_some R s w hi.st b0 hpm hb hlk.1 (by omega)
      | none =>
        refine (pin_new R s w hi.st hpm hb).mono ?_
        rintro e w' ⟨rfl, h1, h2⟩
        refine ⟨rfl, ?_⟩
        rw [h1]
        exact h2
    refine hcall.mono ?_
    rintro e w' ⟨rfl, pm, h1, h2, h3⟩
    have hpn : ∀ p ∈ put R.pins s ((look R.pins s).getD 0 + 1), 1 ≤ p.2 ∧ 0 ≤ p.1 := fun p hp => by
      rcases mem_putI (pins_nodup hi.st) hp with rfl | h
      · exact ⟨by show 1 ≤ (look R.pins s).getD 0 + 1; omega, hs0⟩
      · exact hi.pins p h
    exact ⟨rfl, _, ⟨_, hi.pinned (by omega) h1 hpn (by rw [sum_put]; omega), rfl, rfl, rfl⟩, h2, fp_pins h3⟩

/-- Unpin -/
def Gst.unpinR (A : Gst) (s : Int) : Int := if (look A.pins s).getD 0 = 0 then 1 else 0
def Gst.unpinS (A : Gst) (s : Int) : Gst := if (look A.pins s).getD 0 = 0 then A else if (look A.pins s).getD 0 = 1 then { A with pins := del A.pins s } else { A with pins := put A.pins s ((look A.pins s).getD 0 - 1) }

theorem unpin_g {N : Nat} {w : World} {b : Nat} {A : Gst} {F : List Nat} (s : Int) (h : GSt N w b A F) (hN : N ≤ 100000000000) :
    Calls Tryz.prog 13 #[.pointer (some ⟨b, 0, none⟩), .int .i64 s] w fun e w' => e = .returned (.int .i64 (A.unpinR s)) ∧ After N b (A.unpinS s) F w w' := by
  have hG := h
  obtain ⟨R, hi, rfl, rfl, rfl⟩ := h
  have hlk := look_le_sum s hi.pins
  have hps := hi.pinsN
  unfold Rep.pinSum at hps
  have ep : R.gst.pins = R.pins := rfl
  unfold Gst.unpinR Gst.unpinS
  rw [ep]
  by_cases h0 : (look R.pins s).getD 0 = 0
  · rw [if_pos h0, if_pos h0]
    refine (unpin_none R s w hi.st h0).mono ?_
    rintro e w' ⟨rfl, h1⟩
    exact ⟨rfl, hG.after (Nat.le_refl _) h1⟩
  · rw [if_neg h0, if_neg h0]
    by_cases h1 : (look R.pins s).getD 0 = 1
    · rw [if_pos h1]
      refine (unpin_last R s w hi.st h1).mono ?_
      rintro e w' ⟨rfl, pm, q1, q2, q3⟩
      exact ⟨rfl, _, ⟨_, hi.pinned (Nat.le_refl _) q1 (fun p hp => hi.pins p ((del_sublist _ _).subset hp)) (by rw [sum_delI]; omega), rfl, rfl, rfl⟩, q2, fp_pins q3⟩
    · rw [if_neg h1]
      refine (unpin_more R s _ w hi.st rfl (by omega) (by omega)).mono ?_
      rintro e w' ⟨rfl, pm, q1, q2, q3⟩
      have hpn : ∀ p ∈ put R.pins s ((look R.pins s).getD 0 - 1), 1 ≤ p.2 ∧ 0 ≤ p.1 := fun p hp => by
        rcases mem_putI (pins_nodup hi.st) hp with rfl | h
        · refine ⟨by show 1 ≤ (look R.pins s).getD 0 - 1; omega, ?_⟩
          cases hl : look R.pins s with
          | none => rw [hl] at h0; exact absurd rfl h0
          | some v => exact (hi.pins _ (look_mem hl)).2
        · exact hi.pins p h
      exact ⟨rfl, _, ⟨_, hi.pinned (Nat.le_refl _) q1 hpn (by rw [sum_put]; omega), rfl, rfl, rfl⟩, q2, fp_pins q3⟩

/-- Look -/
theorem look_g {N : Nat} {w : World} {b : Nat} {A : Gst} {F : List Nat} (h : GSt N w b A F) (hN : N ≤ 100000000000) :
    Calls Tryz.prog 6 #[.pointer (some ⟨b, 0, none⟩)] w fun e w' => e = .returned (.agg #[.int .i64 A.now, .int .i64 A.floor, .int .i64 A.works.length, .int .i64 A.pinSum, .int .i64 A.total, .int .i64 A.copyings.length]) ∧ GSt N w' b A F ∧ Keeps (fun _ => False) w w' := by
  have hG := h
  obtain ⟨R, hi, rfl, rfl, rfl⟩ := h
  have hps := hi.pinsN
  have htn := hi.totN
  refine (look_core R w hi.st (· = R.pinSum) (· = (R.total : Int)) (fun W hk => ?_) (fun W hk => ?_)).mono ?_
  · refine (allPins_any R W (hi.st.kept hk (fun _ _ h => h)) (fun p hp => by have := (hi.pins p hp).1; omega) (by omega)).mono ?_
    rintro e w' ⟨rfl, hk⟩
    exact ⟨_, rfl, rfl, hk⟩
  · refine (count_all R W (hi.st.kept hk (fun _ _ h => h)) hi.tied (by omega)).mono ?_
    rintro e w' ⟨rfl, hk⟩
    exact ⟨_, rfl, rfl, hk⟩
  · rintro e w' ⟨⟨p, c, rfl, rfl, rfl⟩, hk⟩
    have e1 : R.gst.works.length = R.works.length := by simp [Rep.gst]
    rw [e1]
    exact ⟨rfl, hG.kept hk (fun _ _ h => h), hk⟩

/-- Sweep -/
def leastOf (now : Int) (hs : List Int) : Int := hs.foldl (fun a b => if b < a then b else a) now

theorem leastOf_is : ∀ (hs : List Int) (now : Int), IsLeast now hs (leastOf now hs)
  | [], now => ⟨Int.le_refl _, fun b hb => (by cases hb), .inl rfl⟩
  | b :: hs, now => by
    obtain ⟨m, hm⟩ : ∃ m, m = if b < now then b else now := ⟨_, rfl⟩
    have h := leastOf_is hs m
    have e : leastOf now (b :: hs) = leastOf m hs := by rw [hm]; rfl
    rw [e]
    obtain ⟨h1, h2, h3⟩ := h
    generalize leastOf m hs = M at *
    refine ⟨by split at hm <;> omega, fun x hx => ?_, ?_⟩
    · rcases List.mem_cons.1 hx with rfl | hx
      · split at hm <;> omega
      · exact h2 x hx
    · rcases h3 with h3 | h3
      · split at hm
        · exact .inr (by rw [h3, hm]; simp)
        · exact .inl (by rw [h3, hm])
      · exact .inr (List.mem_cons_of_mem _ h3)

theorem least_unique {now : Int} {hs : List Int} {a b : Int} (h : IsLeast now hs a) (k : IsLeast now hs b) : a = b := by
  obtain ⟨h1, h2, h3⟩ := h
  obtain ⟨k1, k2, k3⟩ := k
  have ab : a ≤ b := by rcases k3 with rfl | k3; exact h1; exact h2 b k3
  have ba : b ≤ a := by rcases h3 with rfl | h3; exact k1; exact k2 a h3
  omega

def Gst.least (A : Gst) : Int := leastOf A.now A.held
def Gst.sweepR (A : Gst) : Int := ((A.keys.map (fun k => needN (A.vers k) A.least)).sum : Nat)
def Gst.sweepS (A : Gst) : Gst := { A with floor := A.least, keys := A.keys.filter (fun k => decide (needN (A.vers k) A.least < (A.vers k).length)), vers := fun k => (A.vers k).drop (needN (A.vers k) A.least) }

theorem sweep_g {N : Nat} {w : World} {b : Nat} {A : Gst} {F : List Nat} (h : GSt N w b A F) (hN : N ≤ 100000000000) :
    Calls Tryz.prog 9 #[.pointer (some ⟨b, 0, none⟩)] w fun e w' => e = .returned (.int .i64 A.sweepR) ∧ After N b A.sweepS F w w' := by
  obtain ⟨R, hi, rfl, rfl, rfl⟩ := h
  have hkn := hi.keysN
  have htn := hi.totN
  refine (sweep_any R w hi.st hi.good hi.tied (by omega) (by omega)).mono ?_
  rintro e w' ⟨L, rfl, hL, hist, vl, h1, h2, h3, h4, h5, h6⟩
  have hLe : R.gst.least = L := by
    have h7 := leastOf_is R.gst.held R.gst.now
    rw [gst_held] at h7
    unfold Gst.least
    rw [gst_held]
    exact least_unique h7 hL
  have hL0 : 0 ≤ L := by
    rcases hL.2.2 with rfl | hm
    · exact hi.good.now.1
    · unfold Rep.held at hm
      rcases List.mem_append.1 hm with hm | hm
      · rcases List.mem_append.1 hm with hm | hm
        · obtain ⟨p, hp, rfl⟩ := List.mem_map.1 hm
          exact (hi.good.began p hp).1
        · obtain ⟨p, hp, rfl⟩ := List.mem_map.1 hm
          exact (hi.pins p hp).2
      · obtain ⟨p, hp, rfl⟩ := List.mem_map.1 hm
        have := (hi.cops p hp).2.2
        unfold Cop.need
        split
        · exact this.to_.1
        · exact this.from_.1
  have hv : ∀ k, versOf hist k = (versOf R.hist k).drop (needN (versOf R.hist k) L) := fun k => by
    rw [h2 k]
    cases hm : memB R.keys k with
    | true => simp
    | false =>
      have e : versOf R.hist k = [] := by
        apply Classical.byContradiction
        intro hne
        have := (memB_iff _ _).2 (keys_of_vers hi.tied hne)
        rw [hm] at this
        cases this
      simp [e]
  have hnd := hist_nodup h1.past
  have hpv : ∀ p ∈ hist, p.2.vers = (versOf R.hist p.1).drop (needN (versOf R.hist p.1) L) := fun p hp => by
    rw [← hv]
    exact (vers_of_mem hnd hp).2.symm
  have hmem : ∀ k, k ∈ leftL R L R.keys.length ↔ (look hist k).isSome = true := fun k => by
    unfold leftL
    rw [List.take_length, List.mem_filter]
    constructor
    · rintro ⟨_, hs⟩
      have hs' : needN (versOf R.hist k) L < (versOf R.hist k).length := by simpa [staysB] using hs
      cases hl : look hist k with
      | some x => rfl
      | none =>
        have e := hv k
        have e0 : versOf hist k = [] := by unfold versOf; rw [hl]; rfl
        rw [e0] at e
        have := congrArg List.length e
        simp at this
        omega
    · intro hs
      obtain ⟨x, hx⟩ := Option.isSome_iff_exists.1 hs
      have hx0 := h3 k hs
      refine ⟨(memB_iff _ _).1 (by rw [hi.tied.keys]; exact hx0), ?_⟩
      have hf4 := h4 _ (look_mem hx)
      have e := hpv _ (look_mem hx)
      simp only at hf4 e
      have hlen : 0 < x.vers.length := List.length_pos_iff.2 hf4
      rw [e, List.length_drop] at hlen
      simp only [staysB, decide_eq_true_eq]
      omega
  have hsub : (leftL R L R.keys.length).Sublist R.keys := by
    unfold leftL
    rw [List.take_length]
    exact List.filter_sublist
  have hbase := fun k => base_vers hi.good k
  have ek : leftL R L R.keys.length = R.gst.sweepS.keys := by
    unfold leftL Gst.sweepS
    rw [List.take_length, hLe]
    rfl
  have ev : versOf hist = R.gst.sweepS.vers := by
    funext k
    rw [hv k]
    unfold Gst.sweepS
    rw [hLe]
    rfl
  have er : R.gst.sweepR = (thrownN R L R.keys.length : Nat) := by
    unfold Gst.sweepR thrownN
    rw [List.take_length, hLe]
    rfl
  have htot : (((leftL R L R.keys.length).map (fun k => (versOf hist k).length)).sum) ≤ R.total := by
    have q1 := sum_support (f := fun k => (versOf hist k).length) (l := leftL R L R.keys.length) (l0 := R.keys) ((rises_nodup hi.tied.rises).sublist hsub) (fun k hk _ => hsub.subset hk)
    have q2 := sum_map_le (fun k => (versOf hist k).length) (fun k => (versOf R.hist k).length) (fun k => by rw [hv k, List.length_drop]; omega) R.keys
    unfold Rep.total
    omega
  refine ⟨by rw [er], _, ⟨_, ⟨h1, ?_, ?_, hL0, hi.begunN, ?_, ?_, hi.pins, hi.pinsN, hi.startN, hi.cops, hi.cops4⟩, rfl, ?_, rfl⟩, h5, h6⟩
  · refine ⟨hi.good.now, hi.good.begun, hi.good.works8, hi.good.numbers, hi.good.began, hi.good.writes30, hi.good.wkeys, fun p hp => ?_, fun p hp v hvv => ?_, h4, fun p hp => ?_, fun p hp v hvv => ?_, hi.good.sorted.sublist hsub, fun k => ?_⟩
    · rw [hpv p hp]
      exact (hbase p.1).1.sublist (List.drop_sublist _ _)
    · rw [hpv p hp] at hvv
      exact ((hbase p.1).2.1 v ((List.drop_sublist _ _).subset hvv)).1
    · refine (hbase p.1).2.2 (fun e => ?_)
      have e1 := hpv p hp
      rw [e] at e1
      exact h4 p hp (by simpa using e1)
    · rw [hpv p hp] at hvv
      exact ((hbase p.1).2.1 v ((List.drop_sublist _ _).subset hvv)).2
    · rw [hmem k]
      exact Option.isSome_iff_exists
  · refine ⟨hi.tied.rises.sublist hsub, fun k => ?_, h4⟩
    rw [Bool.eq_iff_iff, memB_iff]
    exact hmem k
  · have := hsub.length_le
    show (leftL R L R.keys.length).length ≤ N
    omega
  · show ((leftL R L R.keys.length).map (fun k => (versOf hist k).length)).sum ≤ N
    omega
  · show (⟨R.now, L, R.begun, R.works.map (fun p => (p.1, (p.2.began, p.2.writes))), R.pins, R.started, R.copyings, leftL R L R.keys.length, versOf hist⟩ : Gst) = R.gst.sweepS
    rw [ek, ev]
    unfold Gst.sweepS
    rw [hLe]
    rfl

end Go.Proofs.YtgianpccgcjmjaaGreatDoor

/- Start and Next, from outside. -/
namespace Go.Proofs.YtgianpccgcjmjaaGreatDoor
open Go.RowKit Go.Shelf

theorem GInv.coped {N N' : Nat} {w w' : World} {R : Rep} {cops : List (Int × Cop)} {cm : Option Nat} {st : Int} (h : GInv N w R) (hN : N ≤ N') (hs : StoreAt w' { R with cm := cm, started := st, copyings := cops }) (h0 : R.started ≤ st) (h1 : st ≤ N') (hc : ∀ p ∈ cops, 1 ≤ p.1 ∧ p.1 ≤ st ∧ p.2.Ok) (h4 : cops.length ≤ 4) : GInv N' w' { R with cm := cm, started := st, copyings := cops } :=
  ⟨hs, ⟨h.good.now, h.good.begun, h.good.works8, h.good.numbers, h.good.began, h.good.writes30, h.good.wkeys, h.good.rising, h.good.states, h.good.filled, h.good.hkeys, h.good.hvals, h.good.sorted, h.good.keys⟩, ⟨h.tied.rises, h.tied.keys, h.tied.filled⟩, h.floor,
    by have := h.begunN; show R.begun ≤ _; omega, by have := h.keysN; show R.keys.length ≤ _; omega, by have := h.totN; show R.total ≤ _; omega, h.pins, by have := h.pinsN; show R.pinSum ≤ _; omega, ⟨by have := h.startN.1; show 0 ≤ st; omega, h1⟩, hc, h4⟩

theorem fp_cops {R : Rep} {cm : Option Nat} {cops : List (Int × Cop)} {st : Int} {n : Nat} (h : cm = R.cm ∨ ∃ q, cm = some q ∧ n ≤ q) : ∀ k ∈ Rep.fp { R with cm := cm, started := st, copyings := cops }, k ∈ R.fp ∨ n ≤ k := fun k hk => by
  rcases h with rfl | ⟨q, rfl, hq⟩
  · exact .inl hk
  · rw [(fp_split _).mem_iff] at hk
    rw [(fp_split R).mem_iff]
    simp only [pcOf, List.mem_cons, List.mem_append, Option.toList_some] at hk ⊢
    rcases hk with h | (h | h) | h
    · exact .inl (.inl h)
    · exact .inl (.inr (.inl (.inl h)))
    · right
      simp at h
      omega
    · exact .inl (.inr (.inr h))

/-- Start -/
def Gst.judgeJ (A : Gst) (full : Bool) (a b : Int) : Int := judgeI (A.hasB b) (A.hasB a) A.copyings.length (tellL A.keys A.vers (Cop.new full a b)).length (Cop.new full a b)
def Gst.startR (A : Gst) (full : Bool) (a b : Int) : Int × Int := if A.judgeJ full a b = 0 then (A.started + 1, 0) else (0, A.judgeJ full a b)
def Gst.startS (A : Gst) (full : Bool) (a b : Int) : Gst := if A.judgeJ full a b = 0 then { A with started := A.started + 1, copyings := A.copyings ++ [(A.started + 1, Cop.new full a b)] } else A

theorem judgeI_range (ht hf : Bool) (n tl : Nat) (x : Cop) : judgeI ht hf n tl x = 0 ∨ 1 ≤ judgeI ht hf n tl x ∧ judgeI ht hf n tl x ≤ 9 := by
  unfold judgeI
  split
  · exact .inr (by omega)
  · split
    · exact .inr (by omega)
    · split
      · exact .inr (by omega)
      · exact .inl rfl

theorem judgeI_zero {ht hf : Bool} {n tl : Nat} {x : Cop} (h : judgeI ht hf n tl x = 0) : ht = true ∧ fitB x.full x.from' x.to = true ∧ n < 4 ∧ tl ≤ 1000 := by
  unfold judgeI at h
  split at h
  · omega
  · rename_i h1
    split at h
    · omega
    · rename_i h2
      split at h
      · omega
      · rename_i h3
        refine ⟨?_, by simpa using h2, by omega, by omega⟩
        cases ht with
        | true => rfl
        | false => exact absurd (.inl rfl) h1

theorem cop_new_ok {full : Bool} {a b : Int} (h : fitB full a b = true) : (Cop.new full a b).Ok := by
  unfold fitB stateB at h
  simp at h
  exact ⟨⟨by show 0 ≤ a; omega, by show a ≤ _; omega⟩, ⟨by show 0 ≤ b; omega, by show b ≤ _; omega⟩, Nat.zero_le _, ⟨Int.le_refl _, by show (0 : Int) < _; omega⟩, ⟨Int.le_refl _, by show (0 : Int) ≤ _; omega⟩⟩

theorem start_g {N : Nat} {w : World} {b : Nat} {A : Gst} {F : List Nat} (full : Bool) (x y : Int) (h : GSt N w b A F) (hN : N ≤ 100000000000) :
    Calls Tryz.prog 14 #[.pointer (some ⟨b, 0, none⟩), .bool full, .int .i64 x, .int .i64 y] w fun e w' => e = .returned (.tuple #[.int .i64 (A.startR full x y).1, .int .i64 (A.startR full x y).2]) ∧ After (N + 1) b (A.startS full x y) F w w' := by
  have hG := h
  obtain ⟨R, hi, rfl, rfl, rfl⟩ := h
  have hkn := hi.keysN
  have hst := hi.startN
  unfold Gst.startR Gst.startS
  have hjj : R.gst.judgeJ full x y = judgeI (decide (R.floor ≤ y) && decide (y ≤ R.now)) (decide (R.floor ≤ x) && decide (x ≤ R.now)) R.copyings.length (tellL R.keys (versOf R.hist) (Cop.new full x y)).length (Cop.new full x y) := rfl
  rcases judgeI_range (decide (R.floor ≤ y) && decide (y ≤ R.now)) (decide (R.floor ≤ x) && decide (x ≤ R.now)) R.copyings.length (tellL R.keys (versOf R.hist) (Cop.new full x y)).length (Cop.new full x y) with h0 | ⟨h1, h9⟩
  · rw [hjj, h0, if_pos rfl, if_pos rfl]
    have hnone : look R.copyings (R.started + 1) = none := look_none.2 (fun p hp e => by have := (hi.cops p hp).2.1; omega)
    obtain ⟨-, hfit, hn4, -⟩ := judgeI_zero h0
    have hcall : Calls Tryz.prog 14 #[.pointer (some ⟨R.sb, 0, none⟩), .bool full, .int .i64 x, .int .i64 y] w fun e w' => e = .returned (.tuple #[.int .i64 (R.started + 1), .int .i64 0]) ∧ StartPost R (Cop.new full x y) w w' := by
      cases hcm : R.cm with
      | some q => exact start_some R full x y w hi.st hi.good hi.tied.rises (by omega) hi.cops4 h0 hst.1 (by omega) hnone q hcm
      | none => exact start_new R full x y w hi.st hi.good hi.tied.rises (by omega) hi.cops4 h0 hst.1 (by omega) hnone hcm
    refine hcall.mono ?_
    rintro e w' ⟨rfl, cm, h1, h2, h3⟩
    refine ⟨rfl, Rep.fp { R with cm := cm, started := R.started + 1, copyings := R.copyings ++ [(R.started + 1, Cop.new full x y)] }, ⟨_, hi.coped (by omega) h1 (by omega) (by omega) (fun p hp => ?_) (by simp; omega), rfl, rfl, rfl⟩, h2, fp_cops h3⟩
    rcases List.mem_append.1 hp with hp | hp
    · obtain ⟨a1, a2, a3⟩ := hi.cops p hp
      exact ⟨a1, by omega, a3⟩
    · simp at hp
      subst hp
      exact ⟨by show 1 ≤ R.started + 1; omega, Int.le_refl _, cop_new_ok hfit⟩
  · rw [hjj, if_neg (by omega), if_neg (by omega)]
    refine (start_bad R full x y _ w hi.st hi.good hi.tied.rises (by omega) hi.cops4 rfl h1 h9).mono ?_
    rintro e w' ⟨rfl, hk⟩
    exact ⟨rfl, hG.after (by omega) hk⟩

/-- Next -/
def Gst.nextR (A : Gst) (n : Int) : List UInt8 × Bool × Int := match look A.copyings n with
  | none => ([], false, 1)
  | some x => ((goX x (tell4 A.keys A.vers x)).1, (goX x (tell4 A.keys A.vers x)).2.1, 0)
def Gst.nextS (A : Gst) (n : Int) : Gst := match look A.copyings n with
  | none => A
  | some x => { A with copyings := if (goX x (tell4 A.keys A.vers x)).2.1 = true then del A.copyings n else put A.copyings n (goX x (tell4 A.keys A.vers x)).2.2 }

theorem goX_ok {x : Cop} {recs : List RecB} (h : x.Ok) (hc : x.count ≤ 999999999996) (h4 : recs.length ≤ 4) (hk : ∀ r ∈ recs, r.key.size ≤ 10) : (goX x recs).2.2.Ok := by
  obtain ⟨h1, h2, h3, h5, h6⟩ := h
  unfold goX
  split
  · exact ⟨h1, h2, h3, ⟨by simp, by have := ovL_lt x.sum.toNat (headL x.full x.from'.toNat x.to.toNat); simp only; omega⟩, h6⟩
  · split
    · exact ⟨h1, h2, h3, h5, h6⟩
    · refine ⟨h1, h2, ?_, ⟨by simp, by have := ovL_lt x.sum.toNat (blockL (recs.map RecB.rec_)); simp only; omega⟩, ⟨by simp only; omega, by simp only; omega⟩⟩
      show (((recs.getLast?.map RecB.key).getD ByteArray.empty) ++ ⟨#[0]⟩).size ≤ 11
      rw [ByteArray.size_append]
      have : ((recs.getLast?.map RecB.key).getD ByteArray.empty).size ≤ 10 := by
        cases hl : recs.getLast? with
        | none => exact Nat.zero_le _
        | some r => exact hk r (List.mem_of_getLast? hl)
      have e1 : (⟨#[0]⟩ : ByteArray).size = 1 := rfl
      omega

theorem mem_putC {l : List (Int × Cop)} {s : Int} {v : Cop} {p : Int × Cop} (h : p ∈ put l s v) : p = (s, v) ∨ p ∈ l := by
  induction l with
  | nil => simp [put] at h; exact .inl h
  | cons q r ih =>
    obtain ⟨a, y⟩ := q
    unfold put at h
    by_cases e : a = s
    · rw [if_pos e] at h
      rcases List.mem_cons.1 h with h | h
      · exact .inl h
      · exact .inr (by simp [h])
    · rw [if_neg e] at h
      rcases List.mem_cons.1 h with h | h
      · exact .inr (by simp [h])
      · exact (ih h).imp id (fun h => by simp [h])

theorem mem_delC {l : List (Int × Cop)} {s : Int} {p : Int × Cop} (h : p ∈ del l s) : p ∈ l := by
  induction l with
  | nil => exact h
  | cons q r ih =>
    obtain ⟨a, y⟩ := q
    unfold del at h
    by_cases e : a = s
    · rw [if_pos e] at h
      simp [h]
    · rw [if_neg e] at h
      rcases List.mem_cons.1 h with h | h
      · simp [h]
      · have := ih h; simp [this]

theorem len_delC : ∀ (l : List (Int × Cop)) (s : Int), (del l s).length ≤ l.length
  | [], s => Nat.le_refl _
  | (a, y) :: r, s => by
    unfold del
    split
    · simp
    · have := len_delC r s; simp; omega

theorem next_g {N : Nat} {w : World} {b : Nat} {A : Gst} {F : List Nat} (n : Int) (h : GSt N w b A F) (hN : N ≤ 100000000000) (ht : TurnsAt w) (hc : ∀ x, look A.copyings n = some x → x.count ≤ 999999999996) :
    Calls Tryz.prog 38 #[.pointer (some ⟨b, 0, none⟩), .int .i64 n] w fun e w' => e = .returned (.tuple #[.string (ofL (A.nextR n).1), .bool (A.nextR n).2.1, .int .i64 (A.nextR n).2.2]) ∧ After N b (A.nextS n) F w w' := by
  have hG := h
  obtain ⟨R, hi, rfl, rfl, rfl⟩ := h
  have hkn := hi.keysN
  unfold Gst.nextR Gst.nextS
  cases hx : look R.copyings n with
  | none =>
    rw [show look R.gst.copyings n = none from hx]
    refine (next_none R n w hi.st hx).mono ?_
    rintro e w' ⟨rfl, hk⟩
    exact ⟨rfl, hG.after (by omega) hk⟩
  | some x =>
    rw [show look R.gst.copyings n = some x from hx]
    obtain ⟨o1, o2, o3⟩ := hi.cops _ (look_mem hx)
    simp only at o1 o2 o3
    refine (next_some R n x w hi.st hi.good hi.tied.rises (by omega) o3 ht hx).mono ?_
    rintro e w' ⟨rfl, h1, h2⟩
    have hok : (goX x (tell4 R.keys (versOf R.hist) x)).2.2.Ok := goX_ok o3 (hc x hx) (by unfold tell4; rw [List.length_take]; omega) (fun r hr => by have := tell_small hi.good x r (List.mem_of_mem_take hr); omega)
    have e4 : R.gst.keys = R.keys := rfl
    have e5 : R.gst.vers = versOf R.hist := rfl
    refine ⟨rfl, R.fp, ⟨_, hi.coped (Nat.le_refl _) h1 (Int.le_refl _) hi.startN.2 (fun p hp => ?_) ?_, rfl, rfl, rfl⟩, h2, fun k hk => .inl hk⟩
    · split at hp
      · exact hi.cops p (mem_delC hp)
      · rcases mem_putC hp with rfl | hp
        · exact ⟨o1, o2, hok⟩
        · exact hi.cops p hp
    · split
      · have := len_delC R.copyings n
        have := hi.cops4
        omega
      · rw [length_put, hx]
        exact hi.cops4

end Go.Proofs.YtgianpccgcjmjaaGreatDoor

/- follow: what a stream tells becomes the state at which it ends. -/
namespace Go.Proofs.YtgianpccgcjmjaaGreatDoor
open Go.RowKit Go.Shelf

/-- the version that a stream gives to a key -/
def verR (l : List RecB) (to : Int) (k : ByteArray) : Ver := ((l.find? (fun r => decide (r.key = k))).map (fun r => (⟨to, r.value, r.gone⟩ : Ver))).getD Ver.zero

theorem verR_at {l : List RecB} {to : Int} (hr : Rises (l.map RecB.key)) {j : Nat} (hj : j < l.length) : verR l to l[j].key = ⟨to, l[j].value, l[j].gone⟩ := by
  unfold verR
  have hf : l.find? (fun r => decide (r.key = l[j].key)) = some l[j] := by
    rw [List.find?_eq_some_iff_getElem]
    refine ⟨by simp, j, hj, rfl, fun i hi => ?_⟩
    simp only [Bool.not_eq_true', decide_eq_false_iff_not]
    intro e
    have := List.pairwise_iff_getElem.1 hr i j (by simp; omega) (by simp; omega) hi
    rw [List.getElem_map, List.getElem_map, e, ltK_irrefl] at this
    cases this
  rw [hf]
  rfl

/-- How it stands when j records have been added. -/
structure FolAt (w : World) (R : Rep) (cb : Nat) (C0 : List Nat) (ks : List ByteArray) (ver : ByteArray → Ver) (j : Nat) (wr : World) (Rj : Rep) (fs : List Value) (C : List Nat) : Prop where
  store : StoreAt wr Rj
  grew : Grew R (ks.take j) ver Rj
  chg : Chg wr cb fs C
  len : fs.length = j
  keeps : Keeps (fun k => k ∈ R.fp ∨ k ∈ C0) w wr
  fpC : ∀ k ∈ C, k ∉ Rj.fp
  fpE : ∀ k ∈ Rj.fp, k ∈ R.fp ∨ w.heap.size ≤ k
  cE : ∀ k ∈ C, k ∈ C0 ∨ w.heap.size ≤ k
  klen : Rj.keys.length ≤ R.keys.length + j

theorem FolAt.kept {w wr wr' : World} {R Rj : Rep} {cb : Nat} {fs : List Value} {C0 C : List Nat} {ks : List ByteArray} {ver : ByteArray → Ver} {j : Nat} (h : FolAt w R cb C0 ks ver j wr Rj fs C) (hk : Keeps (fun _ => False) wr wr') : FolAt w R cb C0 ks ver j wr' Rj fs C :=
  ⟨h.store.kept hk (fun _ _ h => h), h.grew, h.chg.kept hk (fun _ _ h => h), h.len, h.keeps.tr hk (fun _ h => h.elim), h.fpC, h.fpE, h.cE, h.klen⟩

theorem FolAt.next {w wr wc : World} {R Rj : Rep} {cb : Nat} {fs : List Value} {C0 C : List Nat} {ks : List ByteArray} {ver : ByteArray → Ver} {j : Nat} (h : FolAt w R cb C0 ks ver j wr Rj fs C) (hj : j < ks.length) (hnew : memB (ks.take j) ks[j] = false)
    (hadd : SAddPost Rj ks[j] (ver ks[j]) cb fs C wr wc) : ∃ R' fs' C', FolAt w R cb C0 ks ver (j + 1) wc R' fs' C' := by
  obtain ⟨wa, wb, C', ha, -, -, -, ⟨kv', b, sl', hS, hkp, c1, c2, c3⟩, hkc, hcc, hC'⟩ := hadd
  have hwz : w.heap.size ≤ wr.heap.size := h.keeps.size
  have hza := ha.size
  have hsz := hkp.size
  have hCl := h.chg.lt
  have hfpl := fp_lt h.store
  have hfp' := addFp (R := Rj) (key := ks[j]) (keys' := (if memB Rj.keys ks[j] then Rj.keys else insAt Rj.keys (below Rj.keys ks[j]) ks[j])) (vs' := versOf Rj.hist ks[j] ++ [ver ks[j]]) c1 c2 c3
  have hkl : (if memB Rj.keys ks[j] then Rj.keys else insAt Rj.keys (below Rj.keys ks[j]) ks[j]).length ≤ R.keys.length + (j + 1) := by
    have := h.klen
    split
    · omega
    · rw [insAt_length _ _ _ (below_le _ _)]
      omega
  have hgr := h.grew.snoc h.store hnew kv' sl' b
  generalize hR' : ({ Rj with kv := kv', keys := (if memB Rj.keys ks[j] then Rj.keys else insAt Rj.keys (below Rj.keys ks[j]) ks[j]), vm := some b, hist := put Rj.hist ks[j] ⟨sl', versOf Rj.hist ks[j] ++ [ver ks[j]]⟩ } : Rep) = R' at hS hfp' hgr
  have hCfp : ∀ k ∈ C, k ∉ R'.fp := fun k hk hf => by
    rcases hfp' k hf with h1 | h1
    · exact h.fpC k hk h1
    · have := hCl k hk; omega
  have htake : ks.take (j + 1) = ks.take j ++ [ks[j]] := List.take_succ_eq_append_getElem hj
  refine ⟨R', _, C', hS.kept hkc (fun k hk hc => hCfp k hc hk), by rw [htake]; exact hgr, hcc, by simp [h.len], ?_, ?_, ?_, ?_, by rw [← hR']; exact hkl⟩
  · refine ((h.keeps.tr ha (fun _ h => h.elim)).trans hkp (fun k hk hf => ?_)).trans hkc (fun k hk hf => ?_)
    · rcases h.fpE k hf with h1 | h1
      · exact .inl h1
      · omega
    · rcases h.cE k hf with h1 | h1
      · exact .inr h1
      · omega
  · intro k hk hf
    rcases hC' k hk with h1 | h1
    · exact hCfp k h1 hf
    · have := fp_lt hS k hf; omega
  · intro k hk
    rcases hfp' k hk with h1 | h1
    · exact h.fpE k h1
    · right; omega
  · intro k hk
    rcases hC' k hk with h1 | h1
    · exact h.cE k h1
    · right; omega

/-- what follow leaves -/
def FolPost (R : Rep) (C0 : List Nat) (l : List RecB) (to : Int) (w w' : World) : Prop :=
  ∃ Rn, StoreAt w' { Rn with now := to } ∧ Grew R (l.map RecB.key) (verR l to) Rn ∧ Keeps (fun k => k ∈ R.fp ∨ k ∈ C0) w w' ∧ (∀ k ∈ Rn.fp, k ∈ R.fp ∨ w.heap.size ≤ k) ∧ Rn.keys.length ≤ R.keys.length + l.length

theorem follow_end {w w1 wr wc : World} {R Rj : Rep} {cb : Nat} {fs : List Value} {C0 C : List Nat} {l : List RecB} {to : Int} (h : FolAt w1 R cb C0 (l.map RecB.key) (verR l to) l.length wr Rj fs C) (hk : Keeps (fun _ => False) w w1) (hkc : Keeps (fun k => k ∈ C ∨ k = R.sb) wr wc) (hhp : wc.heap[R.sb]? = (wr.setCell ⟨R.sb, 0, none⟩ (.int .i64 to)).heap[R.sb]?) : FolPost R C0 l to w wc := by
  obtain ⟨hsb, hwks, hnw⟩ := h.grew.sb
  have hnd := h.store.nodup
  have htop : wc.heap[Rj.sb]? = some (.cells (topCells { Rj with now := to }) 62 (0, 0)) := by
    have := h.store.set (R' := { Rj with now := to }) rfl (i := 0) (v := .int .i64 to) rfl
    rw [hsb] at this ⊢
    rw [hhp]
    exact this
  have hst : StoreAt wc { Rj with now := to } := h.store.nums hkc (fun k hk hb => by
    rcases hb with hb | rfl
    · exact h.fpC k hb (by simp only [Rep.fp, List.mem_cons]; exact .inr hk)
    · rw [← hsb] at hk
      exact (List.nodup_cons.1 hnd).1 hk) to Rj.floor Rj.begun htop
  have hg := h.grew
  rw [show (l.map RecB.key).take l.length = l.map RecB.key by rw [← List.length_map (f := RecB.key), List.take_length]] at hg
  refine ⟨Rj, hst, hg, ?_, fun k hk' => (h.fpE k hk').imp id (fun h => Nat.le_trans hk.size h), by have := h.klen; exact this⟩
  refine ((hk.mono (fun _ _ h => h.elim)).tr h.keeps (fun _ h => h)).trans hkc (fun i hi hb => ?_)
  rcases hb with hb | rfl
  · rcases h.cE i hb with h1 | h1
    · exact .inr h1
    · have := hk.size; omega
  · exact .inl (by simp [Rep.fp])

set_option maxRecDepth 100000 in
set_option maxHeartbeats 2000000 in
theorem follow_any (R : Rep) (cb : Nat) (C0 : List Nat) (full : Bool) (from_ : Int) (to : Nat) (oa : Option Addr) (cap : Nat) (l : List RecB) (w : World) (h : StoreAt w R) (g : Good R) (t : Tied R) (hc : Chg w cb [] C0) (hC : ∀ k ∈ C0, k ∉ R.fp) (hkl : R.keys.length < 900000000000) (hl : l.length ≤ 1000) (hr : RecIn w oa l) (hro : ∀ a, oa = some a → a.block ∉ R.fp ∧ a.block ∉ C0) (hrs : Rises (l.map RecB.key)) :
    Calls Tryz.prog 40 #[.pointer (some ⟨R.sb, 0, none⟩), .pointer (some ⟨cb, 0, none⟩), .agg #[.bool full, .int .i64 from_, .int .i64 (to : Nat), .slice oa l.length cap]] w fun e w' => e = .returned (.tuple #[]) ∧ FolPost R C0 l (to : Nat) w w' := by
  have hlt := h.lt
  have hcbl := hc.lt
  have hfl := fp_lt h
  obtain ⟨w1, hw1⟩ : ∃ w1, w1 = w.alloc (.cells #[.bool full, .int .i64 from_, .int .i64 (to : Nat), .slice oa l.length cap] 83) := ⟨_, rfl⟩
  have k1 : Keeps (fun _ => False) w w1 := by rw [hw1]; exact Keeps.alloc _ _ _
  have HX1 : Hid (w1.heap[w.heap.size]? = some (.cells #[.bool full, .int .i64 from_, .int .i64 (to : Nat), .slice oa l.length cap] 83 (0, 0))) := by show _ = _; rw [hw1]; exact heap_new w _
  have HB0 : Hid (FolAt w1 R cb C0 (l.map RecB.key) (verR l (to : Nat)) 0 w1 R [] C0) := ⟨h.kept k1 (fun _ _ h => h), by simpa using Grew.refl t _, hc.kept k1 (fun _ _ h => h), rfl, Keeps.refl _ _, hC, fun k hk => .inl hk, fun k hk => .inl hk, Nat.le_refl _⟩
  have HNX : Hid (w.heap.size ∉ R.fp ∧ w.heap.size ∉ C0) := ⟨fun hf => by have := hfl _ hf; omega, fun hf => by have := hcbl _ hf; omega⟩
  have HR := hid (hr.kept k1)
  have HRO := hid hro
  have HRS := hid hrs
  have HG := hid g
  have HT := hid t
  have HKL := hid hkl
  have HK1 := hid k1
  have HW1 := hid hw1
  have HL := hid hl
  have hlI : (l.length : Int) ≤ 1000 := by omega
  have x2 := cell_of_heap HX1.out 2
  have x3 := cell_of_heap HX1.out 3
  simp at x2 x3
  clear h g t hc hC hkl hl hr hro hrs k1 hw1 hcbl hfl
  go_enter Tryz.func40, Tryz.ntmps40
  go_wp2_with fail
  rw [← HW1.out]
  go_loopw [11] (fun i wr => ∃ (j : Nat) (Rj : Rep) (fs : List Value) (C : List Nat), j ≤ l.length ∧ i = .int .i64 (j : Nat) ∧ FolAt w1 R cb C0 (l.map RecB.key) (verR l (to : Nat)) j wr Rj fs C) (fun i _ => l.length - (intOf i).toNat)
  case atStart => exact ⟨0, R, [], C0, Nat.zero_le _, rfl, HB0.out⟩
  case round =>
    obtain ⟨j, Rj, fs, C, hj, rfl, hB⟩ := hrel
    have HB := hid hB
    have hbx := (hB.keeps.block w.heap.size (Array.getElem?_eq_some_iff.1 HX1.out).1 (fun h => h.elim HNX.out.1 HNX.out.2)).trans HX1.out
    have y2 := cell_of_heap hbx 2
    simp at y2
    have hbl := (Array.getElem?_eq_some_iff.1 hbx).1
    obtain ⟨hsb, -, -⟩ := hB.grew.sb
    have HSB := hid hsb
    clear hB hbx x2 x3 hsb
    by_cases hjn : j < l.length
    · have hjI : (j : Int) < l.length := by omega
      obtain ⟨g, off, hoa, r0, r1, r2⟩ := HR.out j hjn
      obtain ⟨n1, n2⟩ := HRO.out _ hoa
      have ng : ¬ (g ∈ R.fp ∨ g ∈ C0) := fun h => h.elim n1 n2
      have s0 := HB.out.keeps.cell r0 ng
      have s1 := HB.out.keeps.cell r1 ng
      have s2 := HB.out.keeps.cell r2 ng
      have hks : j < (l.map RecB.key).length := by simpa using hjn
      have hke : (l.map RecB.key)[j] = l[j].key := List.getElem_map ..
      have hnin : memB ((l.map RecB.key).take j) (l.map RecB.key)[j] = false := take_fresh HRS.out hks rfl
      have hver := verR_at (to := (to : Nat)) HRS.out hjn
      have HADD : Hid (∀ W, Keeps (fun _ => False) wr W → Calls Tryz.prog 77 #[.pointer (some ⟨R.sb, 0, none⟩), .pointer (some ⟨cb, 0, none⟩), .string l[j].key, .agg #[.int .i64 (to : Nat), .string l[j].value, .bool l[j].gone]] W fun e w' => e = .returned (.tuple #[]) ∧ SAddPost Rj l[j].key ⟨(to : Nat), l[j].value, l[j].gone⟩ cb fs C W w') := fun W hk => by
        have hvv : versOf Rj.hist l[j].key = versOf R.hist l[j].key := by rw [HB.out.grew.vers, ← hke, hnin]; rfl
        have := sadd_any Rj l[j].key (to : Nat) l[j].value l[j].gone cb fs C W (HB.out.store.kept hk (fun _ _ h => h)) HB.out.grew.tied (by have := HB.out.klen; have := HKL.out; have := HL.out; omega) (by rw [hvv]; exact vers_small HG.out _) (HB.out.chg.kept hk (fun _ _ h => h)) HB.out.fpC (by have := HB.out.len; have := HL.out; omega)
        rw [HSB.out] at this
        exact this
      have HNX2 : Hid (∀ wc W, Keeps (fun _ => False) wr W → SAddPost Rj l[j].key ⟨(to : Nat), l[j].value, l[j].gone⟩ cb fs C W wc → ∃ R' fs' C', FolAt w1 R cb C0 (l.map RecB.key) (verR l (to : Nat)) (j + 1) wc R' fs' C') := fun wc W hk hs => (HB.out.kept hk).next hks hnin (by rw [hke, hver]; exact hs)
      subst hoa
      have HJN := hid hjn
      clear hks hke hnin hver r0 r1 r2 n1 n2 ng hj
      generalize l[j].key = rk at *
      generalize l[j].value = rv at *
      generalize l[j].gone = rg at *
      clear hjn
      go_wp2_with fail
      refine (HADD.out _ ((Keeps.refl (fun _ => False) wr).al _)).mono ?_
      rintro e wc ⟨rfl, hs⟩
      have hnx := HNX2.out _ _ ((Keeps.refl (fun _ => False) wr).al _) hs
      clear hs
      go_wp2
      obtain ⟨R', fs', C', hN⟩ := hnx
      have := HJN.out
      refine ⟨⟨j + 1, R', fs', C', by omega, by simp, hN⟩, ?_⟩
      simp only [intOf]
      omega
    · obtain rfl : j = l.length := by omega
      have hsC : R.sb ∉ C := fun hf => HB.out.fpC _ hf (by rw [← HSB.out]; simp [Rep.fp])
      have hnw := HB.out.grew.sb.2.2
      have hc0 : wr.cell? ⟨R.sb, 0, none⟩ = some (.int .i64 R.now) := by
        have := HB.out.store.cell 0
        rw [HSB.out] at this
        rw [this]
        simp [topCells, hnw]
      have hf0 : wr.frozen? ⟨R.sb, 0, none⟩ = false := by rw [← HSB.out]; exact HB.out.store.frozen 0
      have HAS := hid (assign_int cb fs C R.sb 0 R.now (to : Nat) wr.drew (HB.out.chg.kept (Keeps.drew (fun _ => False) _) (fun _ _ h => h)) ((Keeps.drew (fun _ => False) wr).cell hc0 (fun h => h)) hf0 hsC (by rw [HB.out.len]; have := HL.out; omega))
      clear hsC hc0 hf0 hnw
      go_wp2_with fail
      go_region_with (go_at_call 35; refine (HAS.out).mono ?_; rintro e wc ⟨rfl, fs', C', hfl, hcc, hkc, hC', hhp⟩)
      go_end0
      exact ⟨rfl, follow_end HB.out HK1.out (((Keeps.drew (fun _ => False) wr).mono (fun _ _ h => h.elim)).tr hkc (fun _ h => h)) hhp⟩

end Go.Proofs.YtgianpccgcjmjaaGreatDoor

/- A store that is as it should be, by what can be asked of it; a work with one step. -/
namespace Go.Proofs.YtgianpccgcjmjaaGreatDoor
open Go.RowKit Go.Shelf

/-- what holds of a store, whatever it holds -/
structure Gok (A : Gst) : Prop where
  now : 0 ≤ A.now ∧ A.now ≤ 1000000000
  begun : 0 ≤ A.begun
  fresh : look A.works (A.begun + 1) = none
  rises : Rises A.keys
  keys : ∀ k, k ∈ A.keys ↔ A.vers k ≠ []
  rising : ∀ k, Rising (A.vers k)
  states : ∀ k, ∀ v ∈ A.vers k, 0 ≤ v.state ∧ v.state ≤ A.now
  vals : ∀ k, ∀ v ∈ A.vers k, valB v.value = true
  keyB : ∀ k ∈ A.keys, keyB k = true
  started : 0 ≤ A.started
  freshC : look A.copyings (A.started + 1) = none
  floor : 0 ≤ A.floor

theorem GSt.ok {N : Nat} {w : World} {b : Nat} {A : Gst} {F : List Nat} (h : GSt N w b A F) : Gok A := by
  obtain ⟨R, hi, rfl, rfl, rfl⟩ := h
  have hb := fun k => base_vers hi.good k
  refine ⟨hi.good.now, hi.good.begun.1, ?_, hi.tied.rises, fun k => ⟨fun hk => vers_ne hi.tied hk, fun hk => keys_of_vers hi.tied hk⟩, fun k => (hb k).1, fun k v hv => ((hb k).2.1 v hv).1, fun k v hv => ((hb k).2.1 v hv).2, fun k hk => (hb k).2.2 (vers_ne hi.tied hk), hi.startN.1, ?_, hi.floor⟩
  · rw [gst_look]
    have e : R.gst.begun = R.begun := rfl
    have hn : look R.works (R.begun + 1) = none := look_none.2 (fun p hp e => by have := hi.good.numbers p hp; omega)
    rw [e, hn]
    rfl
  · exact look_none.2 (fun p hp e => by have := (hi.cops p hp).2.1; have e' : p.1 = R.started + 1 := e; omega)

theorem Gok.last {A : Gst} (h : Gok A) (k : ByteArray) : lastOf (A.vers k) ≤ A.now := last_le h.now.1 (h.states k)

/-- the next state, by one key -/
def Gst.wrote1 (A : Gst) (key val : ByteArray) (gone : Bool) : Gst :=
  { A with now := A.now + 1, begun := A.begun + 1, keys := insK A.keys key, vers := fun k => if k = key then A.vers k ++ [⟨A.now + 1, val, gone⟩] else A.vers k }

theorem Gok.begin_ {A : Gst} (hw : A.works.length < 8) : A.beginR = (A.begun + 1, 0) ∧ A.beginS = A.opened := by
  unfold Gst.beginR Gst.beginS
  rw [if_pos hw, if_pos hw]
  exact ⟨rfl, rfl⟩

/-- behind its step -/
def Gst.step1 (A : Gst) (key val : ByteArray) (gone : Bool) : Gst := { A.opened with works := A.works ++ [(A.begun + 1, (A.now, [(key, ⟨0, val, gone⟩)]))] }

theorem Gok.write_ {A : Gst} (h : Gok A) {key val : ByteArray} (gone : Bool) (hk : Go.Proofs.YtgianpccgcjmjaaGreatDoor.keyB key = true) (hv : valB val = true) : A.opened.writeR (A.begun + 1) key val = 0 ∧ A.opened.writeS (A.begun + 1) key val gone = A.step1 key val gone := by
  have hl : look A.opened.works (A.begun + 1) = some (A.now, []) := look_snoc (A.now, []) h.fresh
  have e1 : A.opened.writeR (A.begun + 1) key val = 0 := by
    unfold Gst.writeR
    rw [hl]
    simp [hk, hv, look]
  refine ⟨e1, ?_⟩
  have e2 : put A.opened.works (A.begun + 1) (A.now, put [] key (⟨0, val, gone⟩ : Ver)) = A.works ++ [(A.begun + 1, (A.now, [(key, ⟨0, val, gone⟩)]))] := put_snoc _ _ h.fresh
  unfold Gst.writeS
  rw [hl]
  simp only [e1, if_true, e2]
  rfl

theorem Gok.commit_ {A : Gst} (h : Gok A) (key val : ByteArray) (gone : Bool) (hn : A.now < 1000000000) : (A.step1 key val gone).commitR (A.begun + 1) = (A.now + 1, 0) ∧ (A.step1 key val gone).commitS (A.begun + 1) = A.wrote1 key val gone := by
  have hl : look (A.step1 key val gone).works (A.begun + 1) = some (A.now, [(key, ⟨0, val, gone⟩)]) := look_snoc _ h.fresh
  have hnow : (A.step1 key val gone).now = A.now := rfl
  have hcl : clashB (A.step1 key val gone) A.now [(key, ⟨0, val, gone⟩)] = false := by
    have := h.last key
    have e : (A.step1 key val gone).vers = A.vers := rfl
    simp [clashB, e]
    omega
  unfold Gst.commitR Gst.commitS
  rw [hl]
  simp only [hnow, hn, if_true, hcl]
  refine ⟨by simp, ?_⟩
  have e2 : del (A.step1 key val gone).works (A.begun + 1) = A.works := del_snoc _ h.fresh
  simp only [Gst.became, e2]
  simp [Gst.wrote1, Gst.step1, Gst.opened, insAll]
  funext k
  by_cases e : key = k
  · subst e
    simp [look, verOf]
  · have e' : ¬ k = key := fun h => e h.symm
    simp [look, e, e']

/-- asked with a work of its own -/
def Gst.asked1 (A : Gst) : Gst := { A with begun := A.begun + 1 }

theorem Gok.abort_ {A : Gst} (h : Gok A) : A.opened.abortR (A.begun + 1) = 0 ∧ A.opened.abortS (A.begun + 1) = A.asked1 := by
  have hl : look A.opened.works (A.begun + 1) = some (A.now, []) := look_snoc (A.now, []) h.fresh
  unfold Gst.abortR Gst.abortS
  rw [hl]
  refine ⟨rfl, ?_⟩
  have e2 : del A.opened.works (A.begun + 1) = A.works := del_snoc _ h.fresh
  simp only [Option.isSome_some, if_true, Gst.ended, e2]
  rfl

/-- what stands at a state -/
def Gst.pairs (A : Gst) (s : Int) : List (ByteArray × ByteArray) := A.keys.filterMap (pairOf [] A.vers s)

theorem ltK_empty (k : ByteArray) : ltK k ⟨#[]⟩ = false := by
  cases h : ltK k ⟨#[]⟩ with
  | false => rfl
  | true =>
    have := (ltK_iff _ _).1 h
    simp at this

theorem Gok.scan_ {A : Gst} (h : Gok A) : A.opened.scanR (A.begun + 1) ⟨#[]⟩ (-1) = (A.pairs A.now, 0) := by
  have hl : look A.opened.works (A.begun + 1) = some (A.now, []) := look_snoc (A.now, []) h.fresh
  unfold Gst.scanR
  rw [hl]
  have hsz : (⟨#[]⟩ : ByteArray).size ≤ 10 := by decide
  simp only [hsz, if_true]
  have e : A.opened.seen A.now [] ⟨#[]⟩ = A.pairs A.now := by
    unfold Gst.seen Gst.pairs
    have e1 : insAll A.opened.keys (([] : List (ByteArray × Ver)).map (·.1)) = A.keys := rfl
    rw [e1]
    have e2 : A.keys.filter (fun k => !ltK k ⟨#[]⟩) = A.keys := List.filter_eq_self.2 (fun k _ => by simp [ltK_empty])
    rw [e2]
    rfl
  rw [e]
  rfl

end Go.Proofs.YtgianpccgcjmjaaGreatDoor
