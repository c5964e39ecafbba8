/- Sweep of a store, from outside. -/
import Derived.Test.YthgojidgaeimnaaV5
namespace Go.Proofs.Ythgojidgaeimnaa
open Go.RowKit Go.Shelf

/-- what Sweep leaves of a store, the least state that is held being L -/
def Abs.swept (A : Abs) (L : Int) : Abs := { A with floor := L, vers := fun k => (A.vers k).drop (needN (A.vers k) L) }

theorem sweep_s {K : List ByteArray} {O : Nat → Prop} {w : World} {b : Nat} {A : Abs} (h : SAt K O w b A) (hO : ∀ k, O k → k < w.heap.size) (hK : K.length ≤ 30) (hb : 1 ≤ A.begun) :
    Calls Try.prog 17 #[.pointer (some ⟨b, 0, none⟩)] w fun e w' => ∃ L z : Int, e = .returned (.int .i64 z) ∧ IsLeast A.now (A.works.map (·.2.1)) L ∧ SAt K O w' b (A.swept L) ∧ Keeps (fun k => ¬ O k) w w' := by
  obtain ⟨R, hi, rfl, rfl, hf⟩ := h
  obtain ⟨b0, hwm⟩ := hi.wm hb
  have hkl := hi.keysLen
  refine (sweep_any R w hi.st hi.good hi.tied hi.pm b0 hwm (by omega)).mono ?_
  rintro e w' ⟨L, z, rfl, hL, hist, vl, h1, h2, h3, h4, h5, h6⟩
  have hL' : IsLeast R.abs.now (R.abs.works.map (·.2.1)) L := by
    have e : R.abs.works.map (·.2.1) = R.works.map (·.2.began) := by simp [Rep.abs, List.map_map, Function.comp_def]
    rw [e]
    exact hL
  have hv : ∀ k, versOf hist k = (versOf R.hist k).drop (needN (versOf R.hist k) L) := fun k => by
    rw [h2 k]
    cases hm : memB R.keys k with
    | true => simp
    | false =>
      have e : versOf R.hist k = [] := by
        apply Classical.byContradiction
        intro hne
        have := (memB_iff _ _).2 (keys_of_vers hi.tied hne)
        rw [hm] at this
        cases this
      simp [e]
  have hnd := hist_nodup h1.past
  have hpv : ∀ p ∈ hist, p.2.vers = (versOf R.hist p.1).drop (needN (versOf R.hist p.1) L) := fun p hp => by
    rw [← hv]
    exact (vers_of_mem hnd hp).2.symm
  have hmem : ∀ k, k ∈ leftL R L R.keys.length ↔ (look hist k).isSome = true := fun k => by
    unfold leftL
    rw [List.take_length, List.mem_filter]
    constructor
    · rintro ⟨_, hs⟩
      have hs' : needN (versOf R.hist k) L < (versOf R.hist k).length := by simpa [staysB] using hs
      cases hl : look hist k with
      | some x => rfl
      | none =>
        have e := hv k
        have e0 : versOf hist k = [] := by unfold versOf; rw [hl]; rfl
        rw [e0] at e
        have := congrArg List.length e
        simp at this
        omega
    · intro hs
      obtain ⟨x, hx⟩ := Option.isSome_iff_exists.1 hs
      have hx0 := h3 k hs
      refine ⟨(memB_iff _ _).1 (by rw [hi.tied.keys]; exact hx0), ?_⟩
      have hf4 := h4 _ (look_mem hx)
      have e := hpv _ (look_mem hx)
      simp only at hf4 e
      have hlen : 0 < x.vers.length := List.length_pos_iff.2 hf4
      rw [e, List.length_drop] at hlen
      simp only [staysB, decide_eq_true_eq]
      omega
  have hsub : (leftL R L R.keys.length).Sublist R.keys := by
    unfold leftL
    rw [List.take_length]
    exact List.filter_sublist
  have hbase := fun k => base_vers hi.good k
  refine ⟨L, z, rfl, hL', ⟨_, ⟨h1, ?_, ?_, hi.pm, hi.wm, fun k hk => hi.kin k (hsub.subset hk), hi.win⟩, rfl, ?_, fun k hk ho => ?_⟩, keeps_off hf h5⟩
  · refine ⟨hi.good.now, hi.good.begun, hi.good.works8, hi.good.numbers, hi.good.began, hi.good.writes30, hi.good.wkeys, fun p hp => ?_, fun p hp v hvv => ?_, h4, fun p hp => ?_, fun p hp v hvv => ?_, hi.good.sorted.sublist hsub, fun k => ?_⟩
    · rw [hpv p hp]
      exact (hbase p.1).1.sublist (List.drop_sublist _ _)
    · rw [hpv p hp] at hvv
      exact ((hbase p.1).2.1 v ((List.drop_sublist _ _).subset hvv)).1
    · refine (hbase p.1).2.2 (fun e => ?_)
      have e1 := hpv p hp
      rw [e] at e1
      exact h4 p hp (by simpa using e1)
    · rw [hpv p hp] at hvv
      exact ((hbase p.1).2.1 v ((List.drop_sublist _ _).subset hvv)).2
    · rw [hmem k]
      exact Option.isSome_iff_exists
  · refine ⟨hi.tied.rises.sublist hsub, fun k => ?_, h4⟩
    rw [Bool.eq_iff_iff, memB_iff]
    exact hmem k
  · simp only [Rep.abs, Abs.swept]
    congr 1
    funext k
    exact hv k
  · rcases h6 k hk with h | h
    · exact hf k h ho
    · have := hO k ho
      omega

theorem upN_mono {vs : List Ver} {s t : Int} (h : s ≤ t) (hr : Rising vs) : upN vs s ≤ upN vs t := by
  induction vs with
  | nil => simp [upN]
  | cons v vs ih =>
    unfold upN at *
    by_cases h1 : v.state ≤ s
    · have h2 : v.state ≤ t := Int.le_trans h1 h
      have := ih (List.pairwise_cons.1 hr).2
      simp [h1, h2]
      exact this
    · simp [List.takeWhile_cons, h1]

theorem upN_spec {vs : List Ver} {t : Int} (hr : Rising vs) : (∀ j (h : j < vs.length), j < upN vs t → vs[j].state ≤ t) ∧ (∀ j (h : j < vs.length), upN vs t ≤ j → t < vs[j].state) := by
  induction vs with
  | nil => exact ⟨fun j h => absurd h (Nat.not_lt_zero _), fun j h => absurd h (Nat.not_lt_zero _)⟩
  | cons v vs ih =>
    obtain ⟨h1, h2⟩ := List.pairwise_cons.1 hr
    obtain ⟨i1, i2⟩ := ih h2
    by_cases hv : v.state ≤ t
    · have e : upN (v :: vs) t = upN vs t + 1 := by simp [upN, hv]
      rw [e]
      refine ⟨fun j hj hlt => ?_, fun j hj hle => ?_⟩
      · cases j with
        | zero => simpa using hv
        | succ j => simpa using i1 j (by simpa using hj) (by omega)
      · cases j with
        | zero => omega
        | succ j => simpa using i2 j (by simpa using hj) (by omega)
    · have e : upN (v :: vs) t = 0 := by simp [upN, hv]
      rw [e]
      refine ⟨fun j hj hlt => by omega, fun j hj _ => ?_⟩
      cases j with
      | zero => simp; omega
      | succ j =>
        have hj' : j < vs.length := by simpa using hj
        have := h1 vs[j] (List.getElem_mem hj')
        simp
        omega

theorem upN_drop {vs : List Ver} {t : Int} {n : Nat} (hr : Rising vs) (hn : n ≤ upN vs t) : upN (vs.drop n) t = upN vs t - n := by
  obtain ⟨h1, h2⟩ := upN_spec (t := t) hr
  have hle := upN_le vs t
  refine upN_eq (by rw [List.length_drop]; omega) (fun j hj hlt => ?_) (fun j hj hge => ?_)
  · rw [List.getElem_drop]
    exact h1 _ _ (by omega)
  · rw [List.getElem_drop]
    exact h2 _ _ (by omega)

/-- A state that is held sees the same. -/
theorem at_swept {vs : List Ver} {L t : Int} (hr : Rising vs) (h : L ≤ t) : standsB (atVer (vs.drop (needN vs L)) t) = standsB (atVer vs t) ∧ (standsB (atVer vs t) = true → atVer (vs.drop (needN vs L)) t = atVer vs t) := by
  have hm := upN_mono h hr
  have hle := upN_le vs t
  have hleL := upN_le vs L
  have key : ∀ n, n < upN vs t → n ≤ upN vs t → atVer (vs.drop n) t = atVer vs t := fun n h1 h2 => by
    unfold atVer
    rw [upN_drop hr h2, if_neg (by omega), if_neg (by omega), List.getElem?_drop]
    congr 1
    omega
  cases ha : atVer vs L with
  | none =>
    have e : needN vs L = 0 := by unfold needN; rw [ha]
    rw [e, List.drop_zero]
    exact ⟨rfl, fun _ => rfl⟩
  | some x =>
    have hu : upN vs L ≠ 0 := fun e => by unfold atVer at ha; rw [if_pos e] at ha; cases ha
    cases hg : x.gone with
    | false =>
      have e : needN vs L = upN vs L - 1 := by unfold needN; rw [ha]; simp [hg]
      rw [e, key _ (by omega) (by omega)]
      exact ⟨rfl, fun _ => rfl⟩
    | true =>
      have e : needN vs L = upN vs L := by unfold needN; rw [ha]; simp [hg]
      rw [e]
      by_cases hlt : upN vs L < upN vs t
      · rw [key _ hlt (by omega)]
        exact ⟨rfl, fun _ => rfl⟩
      · have e2 : upN vs t = upN vs L := by omega
        have e3 : atVer vs t = some x := by
          rw [← ha]
          unfold atVer
          rw [e2]
        have e4 : atVer (vs.drop (upN vs L)) t = none := by
          unfold atVer
          rw [upN_drop hr (by omega), if_pos (by omega)]
        rw [e3, e4]
        simp [standsB, hg]

/-- .. whatever becomes behind it. -/
theorem at_more {vs : List Ver} {v : Ver} {t : Int} (hr : Rising vs) (h : t < v.state) : atVer (vs ++ [v]) t = atVer vs t := by
  obtain ⟨h1, h2⟩ := upN_spec (t := t) hr
  have hle := upN_le vs t
  have e : upN (vs ++ [v]) t = upN vs t := by
    refine upN_eq (by simp; omega) (fun j hj hlt => ?_) (fun j hj hge => ?_)
    · rw [List.getElem_append_left (by omega)]
      exact h1 _ _ hlt
    · by_cases hj2 : j < vs.length
      · rw [List.getElem_append_left hj2]
        exact h2 _ _ hge
      · have ej : j = vs.length := by simp at hj; omega
        subst ej
        simpa using h
  unfold atVer
  rw [e]
  split
  · rfl
  · rw [List.getElem?_append_left (by omega)]

end Go.Proofs.Ythgojidgaeimnaa
