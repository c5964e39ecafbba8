/- The twelve keys; what is so of a store as it is told. -/
import Derived.Test.YtfcocbcihhdbkaaT2
namespace Go.Proofs.Ytfcocbcihhdbkaa
open Go.RowKit Go.Shelf

/-- the twelve keys -/
def K12 : List ByteArray := (List.range 12).map (fun k : Nat => keyZ (k : Int))

theorem K12_len : K12.length ≤ 30 := by simp [K12]

theorem fin12 {P : Int → Prop} (h : ∀ k : Fin 12, P (k.val : Int)) {k : Int} (h0 : 0 ≤ k) (h1 : k < 12) : P k := by
  have := h ⟨k.toNat, by omega⟩
  simp only at this
  have e : (k.toNat : Int) = k := by omega
  rwa [e] at this

theorem key_mem {k : Int} (h0 : 0 ≤ k) (h1 : k < 12) : keyZ k ∈ K12 :=
  fin12 (P := fun k => keyZ k ∈ K12) (fun k => List.mem_map.2 ⟨k.val, List.mem_range.2 k.isLt, rfl⟩) h0 h1

theorem key_ok {k : Int} (h0 : 0 ≤ k) (h1 : k < 12) : keyB (keyZ k) = true :=
  fin12 (P := fun k => keyB (keyZ k) = true) (by decide +kernel) h0 h1

theorem key_inj {j k : Int} (h0 : 0 ≤ j) (h1 : j < 12) (h2 : 0 ≤ k) (h3 : k < 12) (h : keyZ j = keyZ k) : j = k := by
  have hall : ∀ a b : Fin 12, keyZ (a.val : Int) = keyZ (b.val : Int) → a = b := by decide +kernel
  have := hall ⟨j.toNat, by omega⟩ ⟨k.toNat, by omega⟩ (by
    have e1 : ((j.toNat : Nat) : Int) = j := by omega
    have e2 : ((k.toNat : Nat) : Int) = k := by omega
    simp only [e1, e2]
    exact h)
  have := congrArg Fin.val this
  simp only at this
  omega

theorem key_of_mem {x : ByteArray} (h : x ∈ K12) : ∃ k : Nat, k < 12 ∧ x = keyZ k := by
  obtain ⟨k, hk, rfl⟩ := List.mem_map.1 h
  exact ⟨k, List.mem_range.1 hk, rfl⟩

theorem key_size {k : Int} (h0 : 0 ≤ k) (h1 : k < 12) : (keyZ k).size ≤ maxLen := by
  have := key_ok h0 h1
  simp [keyB] at this
  unfold maxLen
  omega

theorem cut_ok (s : ByteArray) : valB (s.extract 0 40) = true := by
  simp [valB, ByteArray.size_extract]
  omega

theorem empty_ok : valB ByteArray.empty = true := by decide +kernel

theorem pick_lt (c : Int) {n : Int} (hn : 1 ≤ n) : 0 ≤ pickZ c n ∧ pickZ c n < n := by
  unfold pickZ
  split
  · exact ⟨Int.emod_nonneg _ (by omega), Int.emod_lt_of_pos _ (by omega)⟩
  · exact ⟨Int.emod_nonneg _ (by omega), Int.emod_lt_of_pos _ (by omega)⟩

theorem look_snoc {α β : Type} [DecidableEq α] : ∀ {l : List (α × β)} {n : α} (x : β), look l n = none → look (l ++ [(n, x)]) n = some x
  | [], n, x, _ => by simp [look]
  | (a, y) :: l, n, x, h => by
    unfold look at h
    simp only [List.cons_append]
    unfold look
    by_cases e : a = n
    · rw [if_pos e] at h; cases h
    · rw [if_neg e] at h ⊢
      exact look_snoc x h

theorem put_snoc {α β : Type} [DecidableEq α] : ∀ {l : List (α × β)} {n : α} (x y : β), look l n = none → put (l ++ [(n, x)]) n y = l ++ [(n, y)]
  | [], n, x, y, _ => by simp [put]
  | (a, z) :: l, n, x, y, h => by
    unfold look at h
    simp only [List.cons_append]
    unfold put
    by_cases e : a = n
    · rw [if_pos e] at h; cases h
    · rw [if_neg e] at h ⊢
      rw [put_snoc x y h]

theorem del_snoc {α β : Type} [DecidableEq α] : ∀ {l : List (α × β)} {n : α} (x : β), look l n = none → del (l ++ [(n, x)]) n = l
  | [], n, x, _ => by simp [del]
  | (a, z) :: l, n, x, h => by
    unfold look at h
    simp only [List.cons_append]
    unfold del
    by_cases e : a = n
    · rw [if_pos e] at h; cases h
    · rw [if_neg e] at h ⊢
      rw [del_snoc x h]

/-- What is so of a store as it is told. -/
structure Sound (A : Abs) : Prop where
  now : 0 ≤ A.now ∧ A.now ≤ 1000000000
  begun : 0 ≤ A.begun
  fresh : look A.works (A.begun + 1) = none
  nodup : (A.works.map (·.1)).Nodup
  numbers : ∀ p ∈ A.works, p.1 ≤ A.begun
  began : ∀ p ∈ A.works, 0 ≤ p.2.1 ∧ p.2.1 ≤ A.now
  wnodup : ∀ p ∈ A.works, (p.2.2.map (·.1)).Nodup
  rising : ∀ k, Rising (A.vers k)
  states : ∀ k, ∀ v ∈ A.vers k, 0 ≤ v.state ∧ v.state ≤ A.now

theorem SAt.sound {K : List ByteArray} {O : Nat → Prop} {w : World} {b : Nat} {A : Abs} (h : SAt K O w b A) : Sound A := by
  obtain ⟨R, hi, rfl, rfl, hf⟩ := h
  have hn := works_nodup hi.st
  have hnum : ∀ p ∈ R.abs.works, p.1 ≤ R.begun := fun p hp => by
    obtain ⟨q, hq, rfl⟩ := List.mem_map.1 hp
    exact (hi.good.numbers q hq).2
  refine ⟨hi.good.now, hi.good.begun.1, look_none.2 (fun p hp e => ?_), ?_, hnum, fun p hp => ?_, fun p hp => ?_, fun k => (base_vers hi.good k).1, fun k v hv => ((base_vers hi.good k).2.1 v hv).1⟩
  · have h1 := hnum p hp
    have h2 : p.1 = R.begun + 1 := e
    omega
  · simpa [Rep.abs, List.map_map, Function.comp_def] using hn
  · obtain ⟨q, hq, rfl⟩ := List.mem_map.1 hp
    exact hi.good.began q hq
  · obtain ⟨q, hq, rfl⟩ := List.mem_map.1 hp
    exact writes_nodup hi.st (n := q.1) (x := q.2) hq

theorem last_le {vs : List Ver} {now : Int} (h0 : 0 ≤ now) (h : ∀ v ∈ vs, 0 ≤ v.state ∧ v.state ≤ now) : lastOf vs ≤ now := by
  unfold lastOf
  cases hl : vs.getLast? with
  | none => simpa using h0
  | some v =>
    have := h v (List.mem_of_getLast? hl)
    simpa using this.2

theorem Sound.last {A : Abs} (h : Sound A) (k : ByteArray) : lastOf (A.vers k) ≤ A.now := last_le h.now.1 (h.states k)

theorem last_snoc (vs : List Ver) (v : Ver) : lastOf (vs ++ [v]) = v.state := by simp [lastOf]

/-- the next state, by one key -/
def Abs.next (A : Abs) (key : ByteArray) (val : ByteArray) (gone : Bool) : Abs :=
  { A with now := A.now + 1, begun := A.begun + 1, vers := fun k => if k = key then A.vers k ++ [⟨A.now + 1, val, gone⟩] else A.vers k }

theorem next_eq {A : Abs} (h : Sound A) (key val : ByteArray) (gone : Bool) :
    (A.opened.wrote (A.begun + 1) A.now [] key ⟨0, val, gone⟩).became (A.begun + 1) (put [] key ⟨0, val, gone⟩) = A.next key val gone := by
  have e1 : put (A.works ++ [(A.begun + 1, (A.now, []))]) (A.begun + 1) (A.now, put [] key (⟨0, val, gone⟩ : Ver)) = A.works ++ [(A.begun + 1, (A.now, put [] key ⟨0, val, gone⟩))] := put_snoc _ _ h.fresh
  have e2 := del_snoc (A.now, put [] key (⟨0, val, gone⟩ : Ver)) h.fresh
  simp only [Abs.became, Abs.wrote, Abs.opened, Abs.next, e1, e2]
  congr 1
  funext k
  by_cases e : key = k
  · subst e
    simp [put, look, verOf]
  · have e' : ¬ k = key := fun h => e h.symm
    simp [put, look, e, e']

end Go.Proofs.Ytfcocbcihhdbkaa
