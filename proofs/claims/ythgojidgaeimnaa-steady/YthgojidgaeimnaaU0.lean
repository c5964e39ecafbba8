/- Two rising lists of keys, gone through as one: least, behind. -/
import Derived.Test.YthgojidgaeimnaaT3
namespace Go.Proofs.Ythgojidgaeimnaa
open Go.RowKit Go.Shelf

/-- a slice of strings, wherever it begins, in a block of G -/
def Seg (G : List Nat) (w : World) (v : Value) (xs : List ByteArray) : Prop :=
  (xs = [] ∧ ∃ oa cap, v = .slice oa 0 cap) ∨ ∃ g off cap, g ∈ G ∧ v = .slice (some ⟨g, off, none⟩) xs.length cap ∧ xs.length ≤ cap ∧ cap ≤ maxLen ∧ ∀ i (h : i < xs.length), w.cell? ⟨g, off + i, none⟩ = some (.string xs[i])

def behindL (xs : List ByteArray) (key : ByteArray) : List ByteArray :=
  match xs with
  | [] => []
  | x :: r => if x = key then r else x :: r

/-- the rest of a slice behind its first, if that is to go -/
def behindV (v : Value) (hit : Bool) : Value :=
  match v, hit with
  | .slice (some ⟨g, off, none⟩) (n + 1) cap, true => if cap = 1 then .slice (some ⟨g, off, none⟩) n 0 else .slice (some ⟨g, off + 1, none⟩) n (cap - 1)
  | v, _ => v

def hitB (xs : List ByteArray) (key : ByteArray) : Bool :=
  match xs with
  | [] => false
  | x :: _ => decide (x = key)

def leastL (a b : List ByteArray) : ByteArray :=
  match a, b with
  | [], [] => ByteArray.empty
  | [], y :: _ => y
  | x :: _, [] => x
  | x :: _, y :: _ => if ltK y x = true then y else x

theorem Seg.kept {G : List Nat} {w w' : World} {v : Value} {xs : List ByteArray} (h : Seg G w v xs) (hk : ∀ k ∈ G, w'.heap[k]? = w.heap[k]?) : Seg G w' v xs := by
  rcases h with h | ⟨g, off, cap, hG, h1, h2, h3, h4⟩
  · exact .inl h
  · exact .inr ⟨g, off, cap, hG, h1, h2, h3, fun i hi => by rw [← h4 i hi]; simp only [World.cell?, hk g hG]⟩

theorem Seg.behind {G : List Nat} {w : World} {v : Value} {xs : List ByteArray} (h : Seg G w v xs) (key : ByteArray) : Seg G w (behindV v (hitB xs key)) (behindL xs key) := by
  rcases h with ⟨rfl, oa, cap, rfl⟩ | ⟨g, off, cap, hG, rfl, h1, h2, h3⟩
  · exact .inl ⟨rfl, oa, cap, by simp [hitB, behindV]⟩
  · cases xs with
    | nil => exact .inl ⟨rfl, some ⟨g, off, none⟩, cap, by simp [hitB, behindV]⟩
    | cons x r =>
      by_cases hx : x = key
      · have e1 : behindL (x :: r) key = r := by simp [behindL, hx]
        have e2 : hitB (x :: r) key = true := by simp [hitB, hx]
        rw [e1, e2]
        simp only [List.length_cons, behindV] at h1 ⊢
        split
        · exact .inl ⟨List.eq_nil_of_length_eq_zero (by omega), _, 0, by rw [show r.length = 0 by omega]⟩
        · refine .inr ⟨g, off + 1, cap - 1, hG, rfl, by omega, by omega, fun i hi => ?_⟩
          have := h3 (i + 1) (by simpa using hi)
          rw [show off + 1 + i = off + (i + 1) by omega]
          simpa using this
      · have e1 : behindL (x :: r) key = x :: r := by simp [behindL, hx]
        have e2 : hitB (x :: r) key = false := by simp [hitB, hx]
        rw [e1, e2]
        exact .inr ⟨g, off, cap, hG, rfl, h1, h2, h3⟩

theorem Seg.form {G : List Nat} {w : World} {v : Value} {xs : List ByteArray} (h : Seg G w v xs) : ∃ oa cap, v = .slice oa xs.length cap := by
  rcases h with ⟨rfl, oa, cap, rfl⟩ | ⟨g, off, cap, _, rfl, _⟩
  · exact ⟨oa, cap, rfl⟩
  · exact ⟨_, cap, rfl⟩

theorem Seg.head {G : List Nat} {w : World} {oa : Option Addr} {cap : Nat} {x : ByteArray} {r : List ByteArray} (h : Seg G w (.slice oa (x :: r).length cap) (x :: r)) : ∃ g off, oa = some ⟨g, off, none⟩ ∧ w.cell? ⟨g, off, none⟩ = some (.string x) := by
  rcases h with ⟨h, _⟩ | ⟨g, off, cap', _, e, _, _, h3⟩
  · cases h
  · simp at e
    exact ⟨g, off, e.1, h3 0 (by simp)⟩

set_option maxRecDepth 100000 in
set_option maxHeartbeats 400000 in
theorem behind_any {G : List Nat} (v : Value) (key : ByteArray) (xs : List ByteArray) (w : World) (h : Seg G w v xs) :
    Calls Try.prog 58 #[v, .string key] w fun e w' => e = .returned (behindV v (hitB xs key)) ∧ w' = w := by
  rcases h with ⟨rfl, oa, cap, rfl⟩ | ⟨g, off, cap, _, rfl, h1, h2, h3⟩
  · have e : behindV (.slice oa 0 cap) (hitB [] key) = .slice oa 0 cap := by simp [hitB, behindV]
    rw [e]
    clear e
    go_enter Try.func58, Try.ntmps58
    go_wp2
    go_ret
    exact ⟨rfl, rfl⟩
  · cases xs with
    | nil =>
      have e : behindV (.slice (some ⟨g, off, none⟩) ([] : List ByteArray).length cap) (hitB [] key) = .slice (some ⟨g, off, none⟩) 0 cap := by simp [hitB, behindV]
      rw [e]
      clear e
      go_enter Try.func58, Try.ntmps58
      go_wp2
      go_ret
      exact ⟨rfl, rfl⟩
    | cons x r =>
      have c0 : w.cell? ⟨g, off, none⟩ = some (.string x) := h3 0 (by simp)
      unfold maxLen at h2
      simp only [List.length_cons] at h1 ⊢
      clear h3
      by_cases hx : x = key
      · have e2 : hitB (x :: r) key = true := by simp [hitB, hx]
        have hxb : (x.toList == key.toList) = true := (Lib.bytes_beq_iff _ _).2 hx
        rw [e2]
        simp only [behindV]
        clear hx e2
        by_cases hc1 : cap = 1
        · subst hc1
          obtain rfl : r = [] := List.eq_nil_of_length_eq_zero (by omega)
          simp only [if_true, List.length_nil]
          go_enter Try.func58, Try.ntmps58
          go_wp2
          go_ret
          exact ⟨rfl, rfl⟩
        · rw [if_neg hc1]
          go_enter Try.func58, Try.ntmps58
          go_wp2
          go_ret
          exact ⟨rfl, rfl⟩
      · have e2 : hitB (x :: r) key = false := by simp [hitB, hx]
        have hxb : (x.toList == key.toList) = false := (Lib.bytes_beq_false_iff _ _).2 hx
        rw [e2]
        simp only [behindV]
        clear hx e2
        go_enter Try.func58, Try.ntmps58
        go_wp2
        go_ret
        exact ⟨rfl, rfl⟩

/-- min of two keys -/
theorem min_str (x y : ByteArray) (W : World) : (Builtin.min_ #[9, 9] 9 #[.string x, .string y]).run Try.prog W = .ok (.string (if ltK y x = true then y else x)) W := by
  cases h : ltK y x with
  | true =>
    simp [Builtin.min_, Builtin.min2, Op.stringOp, asBool]
    rintro (h1 | h1)
    · have h2 := ltK_trans (a := y) (b := x) (c := y) h h1
      rw [ltK_irrefl] at h2
      cases h2
    · exact (Lib.bytes_beq_iff x y).1 (by simp [h1])
  | false =>
    simp [Builtin.min_, Builtin.min2, Op.stringOp, asBool]
    intro h1 _
    exact ltK_total h h1

set_option maxRecDepth 100000 in
set_option maxHeartbeats 400000 in
theorem least_any {G : List Nat} (va vb : Value) (a b : List ByteArray) (w : World) (ha : Seg G w va a) (hb : Seg G w vb b) (hne : a ≠ [] ∨ b ≠ []) :
    Calls Try.prog 57 #[va, vb] w fun e w' => e = .returned (.string (leastL a b)) ∧ Keeps (fun _ => False) w w' := by
  obtain ⟨oa, ca, rfl⟩ := ha.form
  obtain ⟨ob, cb, rfl⟩ := hb.form
  cases a with
  | nil =>
    cases b with
    | nil => simp at hne
    | cons y r =>
      obtain ⟨g, off, rfl, c0⟩ := hb.head
      clear ha hb hne
      have e : leastL [] (y :: r) = y := rfl
      rw [e]
      clear e
      go_enter Try.func57, Try.ntmps57
      go_wp2
      go_ret
      exact ⟨rfl, Keeps.refl _ _⟩
  | cons x q =>
    obtain ⟨ga, offa, rfl, c0⟩ := ha.head
    cases b with
    | nil =>
      clear ha hb hne
      have e : leastL (x :: q) [] = x := rfl
      rw [e]
      clear e
      go_enter Try.func57, Try.ntmps57
      go_wp2
      go_ret
      exact ⟨rfl, Keeps.refl _ _⟩
    | cons y r =>
      obtain ⟨gb, offb, rfl, d0⟩ := hb.head
      clear ha hb hne
      have e : leastL (x :: q) (y :: r) = if ltK y x = true then y else x := rfl
      rw [e]
      clear e
      have hmin := min_str x y w.drew
      generalize (if ltK y x = true then y else x) = m at hmin ⊢
      go_enter Try.func57, Try.ntmps57
      go_wp2
      go_region
      go_wp2
      go_ret
      exact ⟨rfl, Keeps.drew _ _⟩

end Go.Proofs.Ythgojidgaeimnaa
