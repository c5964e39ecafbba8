/- Commit of a store, from outside. -/
import Derived.Test.YtfcocbcihhdbkaaT1
namespace Go.Proofs.Ytfcocbcihhdbkaa
open Go.RowKit Go.Shelf

theorem look_isSome {β : Type} (l : List (ByteArray × β)) (k : ByteArray) : (look l k).isSome = true ↔ k ∈ l.map (·.1) := by
  cases h : look l k with
  | none =>
    simp only [Option.isSome_none, Bool.false_eq_true, false_iff]
    intro hm
    obtain ⟨q, hq, e⟩ := List.mem_map.1 hm
    exact look_none.1 h q hq e
  | some v =>
    simp only [Option.isSome_some, true_iff]
    exact List.mem_map.2 ⟨_, look_mem h, rfl⟩

theorem memB_perm {ks : List ByteArray} {ws : List (ByteArray × Ver)} (hp : ks.Perm (ws.map (·.1))) (k : ByteArray) : memB ks k = (look ws k).isSome := by
  rw [Bool.eq_iff_iff, memB_iff, look_isSome]
  exact hp.mem_iff

theorem vers_ne {R : Rep} (t : Tied R) {k : ByteArray} (hk : k ∈ R.keys) : versOf R.hist k ≠ [] := by
  have h1 : (look R.hist k).isSome = true := by rw [← t.keys]; exact (memB_iff _ _).2 hk
  obtain ⟨x, hx⟩ := Option.isSome_iff_exists.1 h1
  have h2 := t.filled _ (look_mem hx)
  unfold versOf
  rw [hx]
  exact h2

theorem keys_of_vers {R : Rep} (t : Tied R) {k : ByteArray} (hk : versOf R.hist k ≠ []) : k ∈ R.keys := by
  rw [← memB_iff, t.keys]
  unfold versOf at hk
  cases hl : look R.hist k with
  | none => rw [hl] at hk; simp at hk
  | some x => rfl

/-- The keys of what has grown. -/
theorem grew_keys {R Rn : Rep} {ks : List ByteArray} {ver : ByteArray → Ver} (t : Tied R) (h : Grew R ks ver Rn) {k : ByteArray} (hk : k ∈ Rn.keys) : k ∈ ks ∨ k ∈ R.keys := by
  have h1 := vers_ne h.tied hk
  rw [h.vers] at h1
  cases hm : memB ks k with
  | true => exact .inl ((memB_iff _ _).1 hm)
  | false =>
    rw [hm] at h1
    exact .inr (keys_of_vers t (by simpa using h1))

theorem Inv.del {K : List ByteArray} {w w' : World} {R : Rep} {n : Int} (h : Inv K w R) (hs : StoreAt w' { R with works := del R.works n }) : Inv K w' { R with works := del R.works n } :=
  ⟨hs, h.good.del n, ⟨h.tied.rises, h.tied.keys, h.tied.filled⟩, h.pm, h.wm, h.kin, fun p hp => h.win p ((del_sublist _ _).subset hp)⟩

/-- Abort -/
theorem abort_s {K : List ByteArray} {O : Nat → Prop} {w : World} {b : Nat} {A : Abs} {n bg : Int} {ws : List (ByteArray × Ver)} (h : SAt K O w b A) (hn : look A.works n = some (bg, ws)) :
    Calls Try.prog 15 #[.pointer (some ⟨b, 0, none⟩), .int .i64 n] w fun e w' => e = .returned (.int .i64 0) ∧ SAt K O w' b (A.ended n) ∧ Keeps (fun k => ¬ O k) w w' := by
  obtain ⟨R, hi, rfl, rfl, hf⟩ := h
  obtain ⟨x, hx, rfl, rfl⟩ := abs_look hn
  refine (abort_some R n x w hi.st hx).mono ?_
  rintro e w' ⟨rfl, h1, h2⟩
  refine ⟨rfl, ⟨_, hi.del h1, rfl, ?_, fun k hk => hf k (fp_del.subset hk)⟩, keeps_off hf h2⟩
  simp only [Rep.abs, Abs.ended]
  rw [abs_del]
  rfl

/-- Commit of a work that has written nothing -/
theorem commit_nil {K : List ByteArray} {O : Nat → Prop} {w : World} {b : Nat} {A : Abs} {n bg : Int} (h : SAt K O w b A) (hn : look A.works n = some (bg, [])) :
    Calls Try.prog 13 #[.pointer (some ⟨b, 0, none⟩), .int .i64 n] w fun e w' => e = .returned (.tuple #[.int .i64 bg, .int .i64 0]) ∧ SAt K O w' b (A.ended n) ∧ Keeps (fun k => ¬ O k) w w' := by
  obtain ⟨R, hi, rfl, rfl, hf⟩ := h
  obtain ⟨x, hx, rfl, hw⟩ := abs_look hn
  refine (commit_empty R n x w hi.st hx hw).mono ?_
  rintro e w' ⟨rfl, h1, h2⟩
  refine ⟨rfl, ⟨_, hi.del h1, rfl, ?_, fun k hk => hf k (fp_del.subset hk)⟩, keeps_off hf h2⟩
  simp only [Rep.abs, Abs.ended]
  rw [abs_del]
  rfl

/-- Commit of one that has written: a clash, or the next state -/
theorem commit_s {K : List ByteArray} {O : Nat → Prop} {w : World} {b : Nat} {A : Abs} {n bg : Int} {ws : List (ByteArray × Ver)} (h : SAt K O w b A) (hO : ∀ k, O k → k < w.heap.size) (hK : K.length ≤ 30) (hn : look A.works n = some (bg, ws)) (hws : ws ≠ []) (hnow : A.now < 1000000000) :
    Calls Try.prog 13 #[.pointer (some ⟨b, 0, none⟩), .int .i64 n] w fun e w' =>
      (((∃ k ∈ ws.map (·.1), bg < lastOf (A.vers k)) ∧ e = .returned (.tuple #[.int .i64 0, .int .i64 4]) ∧ SAt K O w' b (A.ended n)) ∨
       ((∀ k ∈ ws.map (·.1), lastOf (A.vers k) ≤ bg) ∧ e = .returned (.tuple #[.int .i64 (A.now + 1), .int .i64 0]) ∧ SAt K O w' b (A.became n ws))) ∧ Keeps (fun k => ¬ O k) w w' := by
  obtain ⟨R, hi, rfl, rfl, hf⟩ := h
  obtain ⟨x, hx, rfl, rfl⟩ := abs_look hn
  have hnow' : R.now < 1000000000 := hnow
  have hkl := hi.keysLen
  have hxm := look_mem hx
  refine (commit_some R n x w hi.st hi.good hi.tied hx hws hnow' (by omega)).mono ?_
  rintro e w' ⟨ks, hr, hp, hc⟩
  have hmem : ∀ k, k ∈ ks ↔ k ∈ x.writes.map (·.1) := fun k => hp.mem_iff
  have hksK : ∀ k ∈ ks, k ∈ K ∧ keyB k = true ∧ valB ((look x.writes k).getD Ver.zero).value = true := fun k hk => by
    have hk' := (hmem k).1 hk
    obtain ⟨v, hv⟩ := Option.isSome_iff_exists.1 ((look_isSome x.writes k).2 hk')
    have hq := look_mem hv
    obtain ⟨q1, q2, _⟩ := hi.good.wkeys _ hxm _ hq
    exact ⟨hi.win _ hxm _ hq, q1, by rw [hv]; exact q2⟩
  rcases hc with ⟨⟨k, hk, hlt⟩, rfl, R0, h1, h2, h3, h4, h5⟩ | ⟨hle, rfl, Rn, h1, h2, h3, h4⟩
  · refine ⟨.inl ⟨⟨k, (hmem k).1 hk, hlt⟩, rfl, R0, ⟨h1, ?_, h2.tied, ?_, ?_, ?_, ?_⟩, ?_, ?_, fun k hk ho => ?_⟩, keeps_off hf h3⟩
    · have hs := h2.same
      have hg := (hi.good.del n).grew h2 (hist_nodup h1.past) R.now ⟨Int.le_refl _, hi.good.now.2⟩ (fun k hk => (by cases hk)) (fun k hk => (by cases hk))
      have e : { R0 with now := R.now } = R0 := by
        have hn' : R0.now = R.now := by rw [hs]
        rw [← hn']
      rw [e] at hg
      exact hg
    · rw [h2.same]; exact hi.pm
    · rw [h2.same]; exact hi.wm
    · intro k hk
      rcases grew_keys (R := { R with works := Go.Proofs.Ytfcocbcihhdbkaa.del R.works n }) ⟨hi.tied.rises, hi.tied.keys, hi.tied.filled⟩ h2 hk with h | h
      · cases h
      · exact hi.kin k h
    · have e : R0.works = Go.Proofs.Ytfcocbcihhdbkaa.del R.works n := by rw [h2.same]
      rw [e]
      exact fun p hp => hi.win p ((del_sublist _ _).subset hp)
    · rw [h2.same]
    · have e1 : R0.works = Go.Proofs.Ytfcocbcihhdbkaa.del R.works n := by rw [h2.same]
      have e2 : R0.now = R.now ∧ R0.floor = R.floor ∧ R0.begun = R.begun := by rw [h2.same]; exact ⟨rfl, rfl, rfl⟩
      have e3 : versOf R0.hist = versOf R.hist := by
        funext k
        rw [h2.vers]
        simp [memB]
      simp only [Rep.abs, Abs.ended, e1, e2.1, e2.2.1, e2.2.2, e3]
      rw [abs_del]
      rfl
    · rcases h4 k hk with h | h
      · exact hf k h ho
      · have := hO k ho
        omega
  · refine ⟨.inr ⟨fun k hk => hle k ((hmem k).2 hk), rfl, _, ⟨h1, ?_, ⟨h2.tied.rises, h2.tied.keys, h2.tied.filled⟩, ?_, ?_, ?_, ?_⟩, ?_, ?_, fun k hk ho => ?_⟩, keeps_off hf h3⟩
    · have hg := hi.good.grew h2 (hist_nodup h1.past) (R.now + 1) ⟨by omega, by omega⟩ (fun k hk => (hksK k hk).2.1) (fun k hk => ⟨(hksK k hk).2.2, rfl, by omega⟩)
      have hg2 := hg.del n
      have e : Rn.works = R.works := by rw [h2.same]
      rw [← e]
      exact hg2
    · show Rn.pm = none ∧ Rn.cm = none
      rw [h2.same]; exact hi.pm
    · show 1 ≤ Rn.begun → ∃ b0, Rn.wm = some b0
      rw [h2.same]; exact hi.wm
    · intro k hk
      rcases grew_keys hi.tied h2 hk with h | h
      · exact (hksK k h).1
      · exact hi.kin k h
    · exact fun p hp => hi.win p ((del_sublist _ _).subset hp)
    · show Rn.sb = R.sb
      rw [h2.same]
    · have e2 : Rn.floor = R.floor ∧ Rn.begun = R.begun := by rw [h2.same]; exact ⟨rfl, rfl⟩
      have e3 : versOf Rn.hist = fun k => if (look x.writes k).isSome then versOf R.hist k ++ [verOf x.writes (R.now + 1) k] else versOf R.hist k := by
        funext k
        rw [h2.vers, memB_perm hp]
      simp only [Rep.abs, Abs.became, e2.1, e2.2, e3]
      rw [abs_del]
      rfl
    · have e : Rn.works = R.works := by rw [h2.same]
      have hk' : k ∈ Rep.fp { Rn with works := Go.Proofs.Ytfcocbcihhdbkaa.del Rn.works n } := by rw [e]; exact hk
      rcases h4 k (fp_del.subset hk') with h | h
      · exact hf k h ho
      · have := hO k ho
        omega

/-- what Get answers -/
def Abs.get (A : Abs) (n : Int) (key : ByteArray) : ByteArray × Int :=
  match look A.works n with
  | none => (ByteArray.empty, 1)
  | some x =>
    if keyB key = true then
      if standsB (seeVer x.2 (A.vers key) x.1 key) = true then (((seeVer x.2 (A.vers key) x.1 key).getD Ver.zero).value, 0) else (ByteArray.empty, 1)
    else (ByteArray.empty, 2)

theorem get_s {K : List ByteArray} {O : Nat → Prop} {w : World} {b : Nat} {A : Abs} {n : Int} {key : ByteArray} (h : SAt K O w b A) (hk : key.size ≤ maxLen) :
    Calls Try.prog 14 #[.pointer (some ⟨b, 0, none⟩), .int .i64 n, .string key] w fun e w' => e = .returned (.tuple #[.string (A.get n key).1, .int .i64 (A.get n key).2]) ∧ SAt K O w' b A ∧ Keeps (fun _ => False) w w' := by
  obtain ⟨R, hi, rfl, rfl, hf⟩ := h
  refine (get_any R n key w hi.st hi.good hk).mono ?_
  rintro e w' ⟨rfl, h1⟩
  have e : getAns R n key = R.abs.get n key := by
    unfold getAns Abs.get
    have e : R.abs.works = R.works.map (fun p => (p.1, (fun y : WkR => (y.began, y.writes)) p.2)) := rfl
    rw [e, look_map (fun y : WkR => (y.began, y.writes))]
    cases look R.works n <;> rfl
  rw [e]
  exact ⟨rfl, ⟨R, hi.kept h1 (fun _ _ h => h), rfl, rfl, hf⟩, h1⟩

theorem look_s {K : List ByteArray} {O : Nat → Prop} {w : World} {b : Nat} {A : Abs} (h : SAt K O w b A) (hb : 1 ≤ A.begun) :
    Calls Try.prog 12 #[.pointer (some ⟨b, 0, none⟩)] w fun e w' => (∃ c : Int, e = .returned (.agg #[.int .i64 A.now, .int .i64 A.floor, .int .i64 A.works.length, .int .i64 0, .int .i64 c, .int .i64 0])) ∧ SAt K O w' b A ∧ Keeps (fun _ => False) w w' := by
  obtain ⟨R, hi, rfl, rfl, hf⟩ := h
  have _ := hb
  refine (look_any R w hi.st hi.pm.1 hi.pm.2).mono ?_
  rintro e w' ⟨⟨c, rfl⟩, h1⟩
  exact ⟨⟨c, by simp [Rep.abs]⟩, ⟨R, hi.kept h1 (fun _ _ h => h), rfl, rfl, hf⟩, h1⟩

end Go.Proofs.Ytfcocbcihhdbkaa
