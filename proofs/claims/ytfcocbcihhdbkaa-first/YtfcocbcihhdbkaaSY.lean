/- What is good of a store, carried on. -/
import Derived.Test.YtfcocbcihhdbkaaSX
namespace Go.Proofs.Ytfcocbcihhdbkaa
open Go.RowKit

theorem Good.del {R : Rep} (g : Good R) (n : Int) : Good { R with works := del R.works n } := by
  have hs : ∀ p ∈ Go.Proofs.Ytfcocbcihhdbkaa.del R.works n, p ∈ R.works := fun p hp => (del_sublist _ _).subset hp
  exact ⟨g.now, g.begun, Nat.le_trans (del_sublist R.works n).length_le g.works8, fun p hp => g.numbers p (hs p hp), fun p hp => g.began p (hs p hp), fun p hp => g.writes30 p (hs p hp), fun p hp => g.wkeys p (hs p hp), g.rising, g.states, g.filled, g.hkeys, g.hvals, g.sorted, g.keys⟩

theorem vers_of_mem {hist : List (ByteArray × HsR)} (hn : (hist.map (·.1)).Nodup) {p : ByteArray × HsR} (hp : p ∈ hist) : look hist p.1 = some p.2 ∧ versOf hist p.1 = p.2.vers := by
  have h1 : look hist p.1 = some p.2 := by
    induction hist with
    | nil => cases hp
    | cons q r ih =>
      obtain ⟨a, y⟩ := q
      rw [List.map_cons, List.nodup_cons] at hn
      unfold look
      rcases List.mem_cons.1 hp with e | hp'
      · cases e
        simp
      · have hne : a ≠ p.1 := fun e => hn.1 (List.mem_map.2 ⟨p, hp', e.symm⟩)
        rw [if_neg hne]
        exact ih hn.2 hp'
  exact ⟨h1, by unfold versOf; rw [h1]; rfl⟩

theorem vers_mem {hist : List (ByteArray × HsR)} {k : ByteArray} (h : versOf hist k ≠ []) : ∃ p ∈ hist, p.1 = k ∧ p.2.vers = versOf hist k := by
  unfold versOf at h ⊢
  cases hl : look hist k with
  | none => rw [hl] at h; simp at h
  | some y => exact ⟨(k, y), look_mem hl, rfl, rfl⟩

theorem base_vers {R : Rep} (g : Good R) (k : ByteArray) : Rising (versOf R.hist k) ∧ (∀ v ∈ versOf R.hist k, (0 ≤ v.state ∧ v.state ≤ R.now) ∧ valB v.value = true) ∧ (versOf R.hist k ≠ [] → keyB k = true) := by
  by_cases h : versOf R.hist k = []
  · rw [h]
    exact ⟨List.Pairwise.nil, fun v hv => (by cases hv), fun h => absurd rfl h⟩
  · obtain ⟨p, hp, rfl, e⟩ := vers_mem h
    rw [← e]
    exact ⟨g.rising p hp, fun v hv => ⟨g.states p hp v hv, g.hvals p hp v hv⟩, fun _ => g.hkeys p hp⟩

/-- Versions more: still good, at the next state. -/
theorem Good.grew {R Rn : Rep} {ks : List ByteArray} {ver : ByteArray → Ver} (g : Good R) (h : Grew R ks ver Rn) (hn : (Rn.hist.map (·.1)).Nodup) (now : Int) (hnow : R.now ≤ now ∧ now ≤ 1000000000) (hks : ∀ k ∈ ks, keyB k = true) (hv : ∀ k ∈ ks, valB (ver k).value = true ∧ (ver k).state = now ∧ R.now < now) : Good { Rn with now := now } := by
  have hs := h.same
  have ew : Rn.works = R.works := by rw [hs]
  have eb : Rn.begun = R.begun := by rw [hs]
  have hall : ∀ p ∈ Rn.hist, Rising p.2.vers ∧ (∀ v ∈ p.2.vers, (0 ≤ v.state ∧ v.state ≤ now) ∧ valB v.value = true) ∧ keyB p.1 = true := by
    intro p hp
    obtain ⟨b1, b2, b3⟩ := base_vers g p.1
    have hne := h.tied.filled p hp
    rw [← (vers_of_mem hn hp).2, h.vers] at hne ⊢
    have hn0 := g.now.1
    cases hm : memB ks p.1 with
    | false =>
      rw [hm] at hne
      simp only [Bool.false_eq_true, if_false] at hne ⊢
      exact ⟨b1, fun v hv' => ⟨⟨(b2 v hv').1.1, Int.le_trans (b2 v hv').1.2 hnow.1⟩, (b2 v hv').2⟩, b3 hne⟩
    | true =>
      have hk := (memB_iff _ _).1 hm
      obtain ⟨v1, v2, v3⟩ := hv _ hk
      simp only [if_true]
      refine ⟨?_, fun v hv' => ?_, hks _ hk⟩
      · unfold Rising
        rw [List.pairwise_append]
        refine ⟨b1, List.pairwise_singleton _ _, fun a ha b hb => ?_⟩
        have hb' : b = ver p.1 := by simpa using hb
        have := (b2 a ha).1.2
        rw [hb', v2]
        omega
      · rcases List.mem_append.1 hv' with h1 | h1
        · exact ⟨⟨(b2 v h1).1.1, Int.le_trans (b2 v h1).1.2 hnow.1⟩, (b2 v h1).2⟩
        · have e : v = ver p.1 := by simpa using h1
          rw [e, v2]
          exact ⟨⟨by omega, Int.le_refl _⟩, v1⟩
  refine ⟨⟨Int.le_trans g.now.1 hnow.1, hnow.2⟩, ?_, ?_, ?_, ?_, ?_, ?_, fun p hp => (hall p hp).1, fun p hp v hv' => ((hall p hp).2.1 v hv').1, h.tied.filled, fun p hp => (hall p hp).2.2, fun p hp v hv' => ((hall p hp).2.1 v hv').2, ?_, ?_⟩
  · show 0 ≤ Rn.begun ∧ _
    rw [eb]; exact g.begun
  · show Rn.works.length ≤ 8
    rw [ew]; exact g.works8
  · show ∀ p ∈ Rn.works, 1 ≤ p.1 ∧ p.1 ≤ Rn.begun
    rw [ew, eb]; exact g.numbers
  · show ∀ p ∈ Rn.works, 0 ≤ p.2.began ∧ p.2.began ≤ now
    rw [ew]; exact fun p hp => ⟨(g.began p hp).1, Int.le_trans (g.began p hp).2 hnow.1⟩
  · show ∀ p ∈ Rn.works, _
    rw [ew]; exact g.writes30
  · show ∀ p ∈ Rn.works, _
    rw [ew]; exact g.wkeys
  · exact h.tied.rises.imp (fun {a b} hab => (ltK_iff a b).1 hab)
  · intro k
    show k ∈ Rn.keys ↔ ∃ x, look Rn.hist k = some x
    rw [← memB_iff, h.tied.keys]
    exact Option.isSome_iff_exists

theorem Good.entered {R : Rep} (g : Good R) (hl : R.works.length < 8) (hb : R.begun < 1000000000000000) (b m : Nat) (wm : Option Nat) : Good { R with begun := R.begun + 1, wm, works := R.works ++ [(R.begun + 1, ⟨b, m, R.now, []⟩)] } := by
  have hm : ∀ p ∈ R.works ++ [(R.begun + 1, (⟨b, m, R.now, []⟩ : WkR))], p ∈ R.works ∨ p = (R.begun + 1, ⟨b, m, R.now, []⟩) := fun p hp => by simpa using hp
  have hg := g.begun
  have hn := g.now
  refine ⟨g.now, ⟨?_, ?_⟩, ?_, ?_, ?_, ?_, ?_, g.rising, g.states, g.filled, g.hkeys, g.hvals, g.sorted, g.keys⟩
  · show 0 ≤ R.begun + 1
    omega
  · show R.begun + 1 ≤ _
    omega
  · show (R.works ++ [_]).length ≤ 8
    simp; omega
  · intro p hp
    show 1 ≤ p.1 ∧ p.1 ≤ R.begun + 1
    rcases hm p hp with h | h
    · have := g.numbers p h; omega
    · rw [h]; simp; omega
  · intro p hp
    rcases hm p hp with h | h
    · exact g.began p h
    · rw [h]; exact ⟨hn.1, Int.le_refl _⟩
  · intro p hp
    rcases hm p hp with h | h
    · exact g.writes30 p h
    · rw [h]; simp
  · intro p hp
    rcases hm p hp with h | h
    · exact g.wkeys p h
    · rw [h]; intro q hq; cases hq

theorem Good.written {R : Rep} {n : Int} {x : WkR} {key val : ByteArray} {gone : Bool} (g : Good R) (hn : look R.works n = some x) (hw : (R.works.map (·.1)).Nodup) (hx : (x.writes.map (·.1)).Nodup) (hkb : keyB key = true) (hvb : valB val = true) (hfit : (look x.writes key).isSome = true ∨ x.writes.length < 30) :
    Good { R with works := put R.works n { x with writes := put x.writes key ⟨0, val, gone⟩ } } := by
  have hxm := look_mem hn
  have hm : ∀ p ∈ put R.works n { x with writes := put x.writes key ⟨0, val, gone⟩ }, p ∈ R.works ∨ p = (n, { x with writes := put x.writes key ⟨0, val, gone⟩ }) := fun p hp => by
    rcases mem_put hw hp with h | ⟨h, _⟩
    · exact .inr h
    · exact .inl h
  refine ⟨g.now, g.begun, ?_, ?_, ?_, ?_, ?_, g.rising, g.states, g.filled, g.hkeys, g.hvals, g.sorted, g.keys⟩
  · show (put R.works n _).length ≤ 8
    rw [length_put, hn]
    exact g.works8
  · intro p hp
    rcases hm p hp with h | h
    · exact g.numbers p h
    · rw [h]
      have := g.numbers (n, x) hxm
      exact this
  · intro p hp
    rcases hm p hp with h | h
    · exact g.began p h
    · rw [h]
      have := g.began (n, x) hxm
      exact this
  · intro p hp
    rcases hm p hp with h | h
    · exact g.writes30 p h
    · rw [h]
      have h30 := g.writes30 _ hxm
      show (put x.writes key _).length ≤ 30
      rw [length_put]
      simp only at h30
      split
      · exact h30
      · rename_i hs
        rcases hfit with h1 | h1
        · exact absurd h1 hs
        · omega
  · intro p hp
    rcases hm p hp with h | h
    · exact g.wkeys p h
    · rw [h]
      intro q hq
      rcases mem_put hx hq with h1 | ⟨h1, _⟩
      · rw [h1]; exact ⟨hkb, hvb, rfl⟩
      · exact g.wkeys _ hxm q h1

end Go.Proofs.Ytfcocbcihhdbkaa
