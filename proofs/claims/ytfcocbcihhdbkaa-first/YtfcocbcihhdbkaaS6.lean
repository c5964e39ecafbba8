/- Get, Abort. -/
import Derived.Test.YtfcocbcihhdbkaaS5
namespace Go.Proofs.Ytfcocbcihhdbkaa
open Go.RowKit

/-- What is always so of a store's contents. -/
structure Good (R : Rep) : Prop where
  now : 0 ≤ R.now ∧ R.now ≤ 1000000000
  begun : 0 ≤ R.begun ∧ R.begun ≤ 1000000000000000
  works8 : R.works.length ≤ 8
  numbers : ∀ p ∈ R.works, 1 ≤ p.1 ∧ p.1 ≤ R.begun
  began : ∀ p ∈ R.works, 0 ≤ p.2.began ∧ p.2.began ≤ R.now
  writes30 : ∀ p ∈ R.works, p.2.writes.length ≤ 30
  wkeys : ∀ p ∈ R.works, ∀ q ∈ p.2.writes, keyB q.1 = true ∧ valB q.2.value = true ∧ q.2.state = 0
  rising : ∀ p ∈ R.hist, Rising p.2.vers
  states : ∀ p ∈ R.hist, ∀ v ∈ p.2.vers, 0 ≤ v.state ∧ v.state ≤ R.now
  filled : ∀ p ∈ R.hist, p.2.vers ≠ []
  hkeys : ∀ p ∈ R.hist, keyB p.1 = true
  hvals : ∀ p ∈ R.hist, ∀ v ∈ p.2.vers, valB v.value = true
  sorted : R.keys.Pairwise (fun a b => a.data.toList < b.data.toList)
  keys : ∀ k, k ∈ R.keys ↔ ∃ x, look R.hist k = some x

theorem rising_length : ∀ (vs : List Ver) (lo hi : Int), Rising vs → (∀ v ∈ vs, lo ≤ v.state ∧ v.state ≤ hi) → (vs.length : Int) ≤ max 0 (hi - lo + 1)
  | [], lo, hi, _, _ => by simp; omega
  | v :: vs, lo, hi, hr, hb => by
    have h1 := hb v (by simp)
    obtain ⟨h2, h3⟩ := List.pairwise_cons.1 hr
    have ih := rising_length vs (v.state + 1) hi h3 (fun u hu => ⟨by have := h2 u hu; omega, (hb u (by simp [hu])).2⟩)
    simp only [List.length_cons]
    omega

theorem Good.vers {R : Rep} (h : Good R) (key : ByteArray) : Rising (versOf R.hist key) ∧ (versOf R.hist key).length ≤ 1000000000000 := by
  unfold versOf
  cases hl : look R.hist key with
  | none => exact ⟨List.Pairwise.nil, by simp⟩
  | some x =>
    have hm := look_mem hl
    have h1 := h.rising _ hm
    have h2 := rising_length x.vers 0 R.now h1 (h.states _ hm)
    refine ⟨h1, ?_⟩
    have h3 := h.now
    simp only [Option.map_some, Option.getD_some]
    omega

/-- see, for a work of the store -/
theorem see_any (R : Rep) (n : Int) (x : WkR) (key : ByteArray) (w : World) (h : StoreAt w R) (g : Good R) (hx : (n, x) ∈ R.works) :
    Calls Try.prog 34 #[.pointer (some ⟨R.sb, 0, none⟩), workPtr x, .string key] w fun e w' => e = .returned (.tuple #[.string ((seeVer x.writes (versOf R.hist key) x.began key).getD Ver.zero).value, .bool (standsB (seeVer x.writes (versOf R.hist key) x.began key))]) ∧ Keeps (fun _ => False) w w' := by
  obtain ⟨c0, c1, hm⟩ := h.works.work hx
  unfold seeVer
  cases hl : look x.writes key with
  | some v =>
    simp only [Option.getD_some, standsB]
    exact see_mine R.sb x.blk x.mb key _ v w c1 hm (by rw [look_map, hl]; rfl)
  | none =>
    obtain ⟨g1, g2⟩ := g.vers key
    exact see_past R.sb x.blk x.mb key _ x.began R.vm _ _ (versOf R.hist key) w c0 c1 hm (by rw [look_map, hl]; rfl) (h.cell 8) h.past.histMap rfl (h.past.slice key) g1 g2

/-- what Get answers -/
def getAns (R : Rep) (n : Int) (key : ByteArray) : ByteArray × Int :=
  match look R.works n with
  | none => (ByteArray.empty, 1)
  | some x =>
    if keyB key = true then
      if standsB (seeVer x.writes (versOf R.hist key) x.began key) = true then (((seeVer x.writes (versOf R.hist key) x.began key).getD Ver.zero).value, 0) else (ByteArray.empty, 1)
    else (ByteArray.empty, 2)

set_option maxRecDepth 100000 in
set_option maxHeartbeats 400000 in
theorem get_none (R : Rep) (n : Int) (key : ByteArray) (w : World) (h : StoreAt w R) (hn : look R.works n = none) :
    Calls Try.prog 14 #[.pointer (some ⟨R.sb, 0, none⟩), .int .i64 n, .string key] w fun e w' => e = .returned (.tuple #[.string ByteArray.empty, .int .i64 1]) ∧ Keeps (fun _ => False) w w' := by
  have hf := find_any R n w h
  rw [hn] at hf
  simp only [Option.map_none, Option.getD_none] at hf
  clear hn h
  go_enter Try.func14, Try.ntmps14
  go_wp2_with (go_at_call 30; go_must (refine hf.mono ?_; rintro e w1 ⟨rfl, rfl⟩))
  go_ret2
  exact ⟨rfl, Keeps.refl _ _⟩

set_option maxRecDepth 100000 in
set_option maxHeartbeats 400000 in
theorem get_some (R : Rep) (n : Int) (x : WkR) (key : ByteArray) (w : World) (h : StoreAt w R) (g : Good R) (hn : look R.works n = some x) (hk : key.size ≤ maxLen) :
    Calls Try.prog 14 #[.pointer (some ⟨R.sb, 0, none⟩), .int .i64 n, .string key] w fun e w' => e = .returned (.tuple #[.string (getAns R n key).1, .int .i64 (getAns R n key).2]) ∧ Keeps (fun _ => False) w w' := by
  have hf := find_any R n w h
  have hs := see_any R n x key w h g (look_mem hn)
  have hi := isKey_any key w hk
  have hnot : ∀ (x : Bool) (w : World), (Op.unary .not (.bool x)).run Try.prog w = .ok (.bool (!x)) w := fun _ _ => rfl
  rw [hn] at hf
  simp only [Option.map_some, Option.getD_some, workPtr] at hf hs
  unfold getAns
  rw [hn]
  simp only
  generalize seeVer x.writes (versOf R.hist key) x.began key = ov at hs ⊢
  clear hn h g hk
  generalize R.sb = sb at *
  cases hkb : keyB key with
  | false =>
    rw [hkb] at hi
    simp only [Bool.false_eq_true, if_false]
    clear hkb
    go_enter Try.func14, Try.ntmps14
    go_wp2_with (first
      | (go_at_call 30; go_must (refine hf.mono ?_; rintro e w1 ⟨rfl, rfl⟩))
      | (go_at_call 33; go_must (refine hi.mono ?_; rintro e w1 ⟨rfl, rfl⟩)))
    go_ret2
    exact ⟨rfl, Keeps.refl _ _⟩
  | true =>
    rw [hkb] at hi
    simp only [if_true]
    clear hkb
    cases hst : standsB ov with
    | false =>
      rw [hst] at hs
      simp only [Bool.false_eq_true, if_false]
      clear hst
      go_enter Try.func14, Try.ntmps14
      go_wp2_with (first
        | (go_at_call 30; go_must (refine hf.mono ?_; rintro e w1 ⟨rfl, rfl⟩))
        | (go_at_call 33; go_must (refine hi.mono ?_; rintro e w1 ⟨rfl, rfl⟩))
        | (go_at_call 34; go_must (refine hs.mono ?_; rintro e w1 ⟨rfl, hk1⟩)))
      go_ret2
      exact ⟨rfl, hk1⟩
    | true =>
      rw [hst] at hs
      simp only [if_true]
      clear hst
      go_enter Try.func14, Try.ntmps14
      go_wp2_with (first
        | (go_at_call 30; go_must (refine hf.mono ?_; rintro e w1 ⟨rfl, rfl⟩))
        | (go_at_call 33; go_must (refine hi.mono ?_; rintro e w1 ⟨rfl, rfl⟩))
        | (go_at_call 34; go_must (refine hs.mono ?_; rintro e w1 ⟨rfl, hk1⟩)))
      go_ret2
      exact ⟨rfl, hk1⟩

theorem get_any (R : Rep) (n : Int) (key : ByteArray) (w : World) (h : StoreAt w R) (g : Good R) (hk : key.size ≤ maxLen) :
    Calls Try.prog 14 #[.pointer (some ⟨R.sb, 0, none⟩), .int .i64 n, .string key] w fun e w' => e = .returned (.tuple #[.string (getAns R n key).1, .int .i64 (getAns R n key).2]) ∧ Keeps (fun _ => False) w w' := by
  cases hn : look R.works n with
  | none =>
    refine (get_none R n key w h hn).mono ?_
    rintro e w' ⟨he, hk⟩
    refine ⟨?_, hk⟩
    rw [he]
    unfold getAns
    rw [hn]
  | some x => exact get_some R n x key w h g hn hk

end Go.Proofs.Ytfcocbcihhdbkaa
