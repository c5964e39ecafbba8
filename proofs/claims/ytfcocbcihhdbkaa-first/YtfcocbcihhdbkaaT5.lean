/- Two works that begin at one state, as they are told. -/
import Derived.Test.YtfcocbcihhdbkaaT4
namespace Go.Proofs.Ytfcocbcihhdbkaa
open Go.RowKit Go.Shelf

/-- a store with two open works that began now -/
def Abs.two (A : Abs) (wa wb : List (ByteArray × Ver)) : Abs := { A with begun := A.begun + 2, works := [(A.begun + 1, (A.now, wa)), (A.begun + 2, (A.now, wb))] }

theorem two_start {A : Abs} (h : A.works = []) : A.opened.opened = A.two [] [] := by
  simp only [Abs.opened, Abs.two, h, List.nil_append, List.cons_append]
  have e : A.begun + 1 + 1 = A.begun + 2 := by omega
  rw [e]

theorem two_look1 (A : Abs) (wa wb : List (ByteArray × Ver)) : look (A.two wa wb).works (A.begun + 1) = some (A.now, wa) := by simp [Abs.two, look]
theorem two_look2 (A : Abs) (wa wb : List (ByteArray × Ver)) : look (A.two wa wb).works (A.begun + 2) = some (A.now, wb) := by
  have e : ¬ A.begun + 1 = A.begun + 2 := by omega
  simp [Abs.two, look, e]

theorem two_wrote1 (A : Abs) (wa wb : List (ByteArray × Ver)) (key : ByteArray) (v : Ver) : (A.two wa wb).wrote (A.begun + 1) A.now wa key v = A.two (put wa key v) wb := by
  have e1 : put [(A.begun + 1, (A.now, wa)), (A.begun + 2, (A.now, wb))] (A.begun + 1) (A.now, put wa key v) = [(A.begun + 1, (A.now, put wa key v)), (A.begun + 2, (A.now, wb))] := by
    rw [put, if_pos rfl]
  simp only [Abs.two, Abs.wrote, e1]
theorem two_wrote2 (A : Abs) (wa wb : List (ByteArray × Ver)) (key : ByteArray) (v : Ver) : (A.two wa wb).wrote (A.begun + 2) A.now wb key v = A.two wa (put wb key v) := by
  have e : ¬ A.begun + 1 = A.begun + 2 := by omega
  have e1 : put [(A.begun + 1, (A.now, wa)), (A.begun + 2, (A.now, wb))] (A.begun + 2) (A.now, put wb key v) = [(A.begun + 1, (A.now, wa)), (A.begun + 2, (A.now, put wb key v))] := by
    rw [put, if_neg e, put, if_pos rfl]
  simp only [Abs.two, Abs.wrote, e1]

/-- what the first leaves -/
def Abs.after1 (A : Abs) (wa wb : List (ByteArray × Ver)) : Abs :=
  { A with now := if wa = [] then A.now else A.now + 1, begun := A.begun + 2, works := [(A.begun + 2, (A.now, wb))], vers := fun k => if (look wa k).isSome then A.vers k ++ [verOf wa (A.now + 1) k] else A.vers k }

/-- what both leave, where the second does not become -/
def Abs.after0 (A : Abs) (wa : List (ByteArray × Ver)) : Abs :=
  { A with now := if wa = [] then A.now else A.now + 1, begun := A.begun + 2, works := [], vers := fun k => if (look wa k).isSome then A.vers k ++ [verOf wa (A.now + 1) k] else A.vers k }

theorem after1_nil (A : Abs) (wb : List (ByteArray × Ver)) : (A.two [] wb).ended (A.begun + 1) = A.after1 [] wb := by
  have e1 : del [(A.begun + 1, (A.now, ([] : List (ByteArray × Ver)))), (A.begun + 2, (A.now, wb))] (A.begun + 1) = [(A.begun + 2, (A.now, wb))] := by rw [del, if_pos rfl]
  simp only [Abs.two, Abs.ended, Abs.after1, e1, if_true, look]
  simp

theorem after1_some (A : Abs) (wa wb : List (ByteArray × Ver)) (h : wa ≠ []) : (A.two wa wb).became (A.begun + 1) wa = A.after1 wa wb := by
  have e1 : del [(A.begun + 1, (A.now, wa)), (A.begun + 2, (A.now, wb))] (A.begun + 1) = [(A.begun + 2, (A.now, wb))] := by rw [del, if_pos rfl]
  simp only [Abs.two, Abs.became, Abs.after1, e1, if_neg h]

theorem after1_look (A : Abs) (wa wb : List (ByteArray × Ver)) : look (A.after1 wa wb).works (A.begun + 2) = some (A.now, wb) := by simp [Abs.after1, look]

theorem after0_eq (A : Abs) (wa wb : List (ByteArray × Ver)) : (A.after1 wa wb).ended (A.begun + 2) = A.after0 wa := by
  have e1 : del [(A.begun + 2, (A.now, wb))] (A.begun + 2) = [] := by rw [del, if_pos rfl]
  simp only [Abs.after1, Abs.ended, Abs.after0, e1]

/-- have they written a key both? -/
def clashB (wa wb : List (ByteArray × Ver)) : Bool := wb.any (fun p => (look wa p.1).isSome)

theorem clashB_iff (wa wb : List (ByteArray × Ver)) : clashB wa wb = true ↔ ∃ k ∈ wb.map (·.1), (look wa k).isSome = true := by
  unfold clashB
  rw [List.any_eq_true]
  constructor
  · rintro ⟨p, hp, h⟩
    exact ⟨p.1, List.mem_map.2 ⟨p, hp, rfl⟩, h⟩
  · rintro ⟨k, hk, h⟩
    obtain ⟨p, hp, rfl⟩ := List.mem_map.1 hk
    exact ⟨p, hp, h⟩

theorem mem_keys_put (l : List (ByteArray × Ver)) (k x : ByteArray) (v : Ver) : x ∈ (put l k v).map (·.1) ↔ x = k ∨ x ∈ l.map (·.1) := by
  rw [← look_isSome, look_put, ← look_isSome]
  by_cases e : k = x
  · subst e; simp
  · have e' : ¬ x = k := fun h => e h.symm
    simp [e, e']

theorem clashB_put (wa wb : List (ByteArray × Ver)) (k : ByteArray) (v : Ver) : clashB wa (put wb k v) = (clashB wa wb || (look wa k).isSome) := by
  rw [Bool.eq_iff_iff, clashB_iff, Bool.or_eq_true, clashB_iff]
  constructor
  · rintro ⟨x, hx, h⟩
    rcases (mem_keys_put _ _ _ _).1 hx with rfl | hx
    · exact .inr h
    · exact .inl ⟨x, hx, h⟩
  · rintro (⟨x, hx, h⟩ | h)
    · exact ⟨x, (mem_keys_put _ _ _ _).2 (.inr hx), h⟩
    · exact ⟨k, (mem_keys_put _ _ _ _).2 (.inl rfl), h⟩

theorem put_ne_nil (l : List (ByteArray × Ver)) (k : ByteArray) (v : Ver) : put l k v ≠ [] := by
  cases l with
  | nil => simp [put]
  | cons p l => obtain ⟨a, y⟩ := p; unfold put; split <;> simp

/-- The second clashes just if both have written a key. -/
theorem after1_last {A : Abs} (h : Sound A) (wa wb : List (ByteArray × Ver)) (k : ByteArray) : A.now < lastOf ((A.after1 wa wb).vers k) ↔ (look wa k).isSome = true := by
  simp only [Abs.after1]
  have := h.last k
  cases hl : (look wa k).isSome with
  | true => simp [last_snoc, verOf]; omega
  | false => simp; exact this

theorem atVer_snoc {vs : List Ver} {v : Ver} {t : Int} (h : ∀ u ∈ vs, u.state ≤ t) (hv : v.state ≤ t) : atVer (vs ++ [v]) t = some v := by
  have e : upN (vs ++ [v]) t = vs.length + 1 := by
    refine upN_eq (by simp) (fun j hj _ => ?_) (fun j hj hr => by simp at hj; omega)
    by_cases e : j < vs.length
    · rw [List.getElem_append_left e]
      exact h _ (List.getElem_mem e)
    · have e' : j = vs.length := by simp at hj; omega
      subst e'
      simpa using hv
  unfold atVer
  rw [e]
  simp

/-- Behind both, a work that begins sees what the first has put. -/
theorem after0_get {A : Abs} (h : Sound A) {wa : List (ByteArray × Ver)} {key val : ByteArray} (hkb : keyB key = true) (hv : look wa key = some ⟨0, val, false⟩) (B : Int) :
    ({ A.after0 wa with begun := B } : Abs).opened.get (B + 1) key = (val, 0) := by
  have hne : wa ≠ [] := fun e => by rw [e] at hv; cases hv
  have e1 : atVer (A.vers key ++ [⟨A.now + 1, val, false⟩]) (A.now + 1) = some ⟨A.now + 1, val, false⟩ := atVer_snoc (fun u hu => by have := h.states key u hu; omega) (Int.le_refl _)
  simp only [Abs.get, Abs.opened, Abs.after0, List.nil_append, look, if_true, if_neg hne, hkb, seeVer, hv, Option.isSome_some, verOf, Option.getD_some]
  rw [e1]
  simp [standsB]

end Go.Proofs.Ytfcocbcihhdbkaa
