/- What First keeps between its loops. -/
import Derived.Test.YtfcocbcihhdbkaaT6
namespace Go.Proofs.Ytfcocbcihhdbkaa
open Go.RowKit Go.Shelf

/-- a raw step -/
structure RawStep where
  what : Int
  key : Int
  value : ByteArray

/-- A list of raw steps lies so. -/
def StepsAt (w : World) (oa : Option Addr) (n : Nat) (S : Nat → RawStep) : Prop :=
  ∀ i, i < n → ∃ b off, oa = some ⟨b, off, none⟩ ∧ b < w.heap.size ∧ w.cell? ⟨b, off + i * 3, none⟩ = some (.int .i64 (S i).what) ∧ w.cell? ⟨b, off + i * 3 + 1, none⟩ = some (.int .i64 (S i).key) ∧ w.cell? ⟨b, off + i * 3 + 2, none⟩ = some (.string (S i).value) ∧
    (-9223372036854775808 ≤ (S i).what ∧ (S i).what ≤ 9223372036854775807) ∧ (-9223372036854775808 ≤ (S i).key ∧ (S i).key ≤ 9223372036854775807) ∧ (S i).value.size ≤ maxLen

theorem StepsAt.kept {w w' : World} {oa : Option Addr} {n : Nat} {S : Nat → RawStep} (h : StepsAt w oa n S) (hk : Keeps (fun _ => False) w w') : StepsAt w' oa n S := fun i hi => by
  obtain ⟨b, off, e, hb, h1, h2, h3, h4⟩ := h i hi
  exact ⟨b, off, e, Nat.lt_of_lt_of_le hb hk.size, hk.cell h1 (fun h => h), hk.cell h2 (fun h => h), hk.cell h3 (fun h => h), h4⟩

/-- before the two works -/
def FirstBefore (w : World) (b : Nat) (wr : World) : Prop :=
  ∃ A : Abs, SAt K12 (fun k => k < w.heap.size) wr b A ∧ A.works = [] ∧ A.now ≤ 100000 ∧ A.begun ≤ 100000 ∧ Keeps (fun _ => False) w wr

def FirstBeforeAt (w : World) (b : Nat) (k : Nat) (wr : World) : Prop :=
  ∃ A : Abs, SAt K12 (fun k => k < w.heap.size) wr b A ∧ A.works = [] ∧ A.now = k ∧ A.begun = k ∧ Keeps (fun _ => False) w wr

theorem firstBefore_step {w wr w' : World} {b k : Nat} {A : Abs} {what key : Int} {val : ByteArray} {e : Ending} (hA : A.works = [] ∧ A.now = k ∧ A.begun = k) (hk : Keeps (fun _ => False) w wr) (h : WritePost (fun k => k < w.heap.size) b A what key val wr e w') : e = .returned (.bool true) ∧ FirstBeforeAt w b (k + 1) w' := by
  obtain ⟨rfl, h1, h2⟩ := h
  refine ⟨rfl, _, h1, hA.1, ?_, ?_, hk.trans h2 (fun k hk h => h hk)⟩
  · show A.now + 1 = _
    rw [hA.2.1]; rfl
  · show A.begun + 1 = _
    rw [hA.2.2]; rfl

theorem Row.set {w : World} {e : TypeId} {g n cap : Nat} {xs : List Value} (h : Row w e 1 (.slice (some ⟨g, 0, none⟩) n cap) n xs) (i : Nat) (u : Value) : Row (w.setCell ⟨g, i, none⟩ u) e 1 (.slice (some ⟨g, 0, none⟩) n cap) n (xs.set i u) := by
  refine ⟨by simpa using h.1, ?_⟩
  rcases h.2 with ⟨h2, _⟩ | ⟨g', cap', cur, hv, hh, h3, h4, h5, h6⟩
  · simp at h2
  · simp at hv
    obtain ⟨rfl, rfl⟩ := hv
    refine .inr ⟨g, cap, cur.setIfInBounds i u, rfl, heap_setCell_same hh u, h3, h4, by simpa using h5, ?_⟩
    rw [← h6]
    simp [List.take_set]

theorem Row.block {w : World} {e : TypeId} {size g n cap : Nat} {xs : List Value} (h : Row w e size (.slice (some ⟨g, 0, none⟩) n cap) n xs) : g < w.heap.size := h.lt rfl

/-- Between the loops: two open works, what the first has put. -/
structure Mid (w : World) (b g cap l : Nat) (A : Abs) (wa wb : List (ByteArray × Ver)) (M : List Bool) (L : List ByteArray) (wr : World) : Prop where
  st : SAt K12 (fun k => k < w.heap.size ∨ k = g ∨ k = l) wr b (A.two wa wb)
  keep : Keeps (fun _ => False) w wr
  apart : w.heap.size ≤ g ∧ w.heap.size ≤ l ∧ g ≠ l
  mine : Row wr 4 1 (.slice (some ⟨g, 0, none⟩) 12 cap) 12 (M.map Value.bool)
  last : Row wr 9 1 (.slice (some ⟨l, 0, none⟩) 12 12) 12 (L.map Value.string)
  tieM : ∀ k : Nat, k < 12 → M[k]? = some ((look wa (keyZ k)).isSome)
  tieL : ∀ k : Nat, k < 12 → ∀ v, look wa (keyZ k) = some v → ∃ x, L[k]? = some x ∧ v = ⟨0, x, false⟩

theorem Mid.lens {w : World} {b g cap l : Nat} {A : Abs} {wa wb : List (ByteArray × Ver)} {M : List Bool} {L : List ByteArray} {wr : World} (h : Mid w b g cap l A wa wb M L wr) : M.length = 12 ∧ L.length = 12 := by
  have h1 := h.mine.1
  have h2 := h.last.1
  simp at h1 h2
  exact ⟨h1, h2⟩

theorem Mid.own {w : World} {b g cap l : Nat} {A : Abs} {wa wb : List (ByteArray × Ver)} {M : List Bool} {L : List ByteArray} {wr : World} (h : Mid w b g cap l A wa wb M L wr) : ∀ k, (k < w.heap.size ∨ k = g ∨ k = l) → k < wr.heap.size := by
  intro k hk
  have h1 := h.mine.block
  have h2 := h.last.block
  have h3 := h.keep.size
  omega

theorem Mid.kept {w : World} {b g cap l : Nat} {A : Abs} {wa wb : List (ByteArray × Ver)} {M : List Bool} {L : List ByteArray} {wr wr' : World} (h : Mid w b g cap l A wa wb M L wr) (hk : Keeps (fun _ => False) wr wr') : Mid w b g cap l A wa wb M L wr' :=
  ⟨h.st.kept hk (fun _ _ h => h.elim), h.keep.tr hk (fun _ h => h), h.apart, h.mine.kept hk (fun _ _ h => h), h.last.kept hk (fun _ _ h => h), h.tieM, h.tieL⟩

/-- The cells of both rows, for a walk. -/
theorem Mid.cells {w : World} {b g cap l : Nat} {A : Abs} {wa wb : List (ByteArray × Ver)} {M : List Bool} {L : List ByteArray} {wr : World} (h : Mid w b g cap l A wa wb M L wr) {k : Nat} (hk : k < 12) :
    wr.cell? ⟨g, k, none⟩ = some (.bool (look wa (keyZ k)).isSome) ∧ wr.frozen? ⟨g, k, none⟩ = false ∧ wr.cell? ⟨l, k, none⟩ = some (.string (L.getD k ByteArray.empty)) ∧ wr.frozen? ⟨l, k, none⟩ = false := by
  obtain ⟨e1, e2⟩ := h.lens
  refine ⟨?_, h.mine.frozenAt k, ?_, h.last.frozenAt k⟩
  · rw [h.mine.cellAt k (by omega), List.getElem?_map, h.tieM k hk]; rfl
  · rw [h.last.cellAt k (by omega), List.getElem?_map]
    simp [List.getD, e2, hk]

/-- The first work has put: both rows are told. -/
theorem Mid.putA {w : World} {b g cap l : Nat} {A : Abs} {wa wb : List (ByteArray × Ver)} {M : List Bool} {L : List ByteArray} {wr w2 w3 : World} (h : Mid w b g cap l A wa wb M L wr) {j : Nat} (hj : j < 12) {x : ByteArray}
    (hk2 : Keeps (fun _ => False) ((wr.setCell ⟨g, j, none⟩ (.bool true)).setCell ⟨l, j, none⟩ (.string x)) w2) (s3 : SAt K12 (fun k => k < w.heap.size ∨ k = g ∨ k = l) w3 b ((A.two wa wb).wrote (A.begun + 1) A.now wa (keyZ j) ⟨0, x, false⟩)) (k3 : Keeps (fun k => ¬ (k < w.heap.size ∨ k = g ∨ k = l)) w2 w3) :
    Mid w b g cap l A (put wa (keyZ j) ⟨0, x, false⟩) wb (M.set j true) (L.set j x) w3 := by
  obtain ⟨e1, e2⟩ := h.lens
  obtain ⟨p1, p2, p3⟩ := h.apart
  rw [two_wrote1] at s3
  have hm := ((h.mine.set j (.bool true)).kept (Keeps.setCell _ ⟨l, j, none⟩ (.string x)) (fun k hk e => p3 (by simp [Value.ownBlock] at hk; have e' : k = l := e; omega))).kept hk2 (fun _ _ h => h)
  have hl := ((h.last.kept (Keeps.setCell wr ⟨g, j, none⟩ (.bool true)) (fun k hk e => p3 (by simp [Value.ownBlock] at hk; have e' : k = g := e; omega))).set j (.string x)).kept hk2 (fun _ _ h => h)
  have inj : ∀ k : Nat, k < 12 → (keyZ j = keyZ k ↔ j = k) := fun k hk => ⟨fun e => by have := key_inj (j := (j : Int)) (k := (k : Int)) (by omega) (by omega) (by omega) (by omega) e; omega, fun e => by rw [e]⟩
  refine ⟨s3, ?_, h.apart, ?_, ?_, fun k hk => ?_, fun k hk v hv => ?_⟩
  · have q1 : Keeps (fun _ => False) w (wr.setCell ⟨g, j, none⟩ (.bool true)) := h.keep.trans (Keeps.setCell _ _ _) (fun k hk e => by have e' : k = g := e; omega)
    have q2 : Keeps (fun _ => False) w ((wr.setCell ⟨g, j, none⟩ (.bool true)).setCell ⟨l, j, none⟩ (.string x)) := q1.trans (Keeps.setCell _ _ _) (fun k hk e => by have e' : k = l := e; omega)
    exact (q2.tr hk2 (fun _ h => h)).trans k3 (fun k hk h => h (.inl hk))
  · have := hm.kept k3 (fun k hk h => h (.inr (.inl (by simp [Value.ownBlock] at hk; exact hk.symm))))
    rwa [← List.map_set] at this
  · have := hl.kept k3 (fun k hk h => h (.inr (.inr (by simp [Value.ownBlock] at hk; exact hk.symm))))
    rwa [← List.map_set] at this
  · rw [look_put, List.getElem?_set]
    by_cases e : j = k
    · subst e
      simp [e1, hj]
    · rw [if_neg e, if_neg (fun h => e ((inj k hk).1 h))]
      exact h.tieM k hk
  · rw [look_put] at hv
    rw [List.getElem?_set]
    by_cases e : j = k
    · subst e
      rw [if_pos rfl] at hv
      simp only [Option.some.injEq] at hv
      exact ⟨x, by simp [e2, hj], hv.symm⟩
    · rw [if_neg (fun h => e ((inj k hk).1 h))] at hv
      rw [if_neg e]
      exact h.tieL k hk v hv

/-- The second has put. -/
theorem Mid.putB {w : World} {b g cap l : Nat} {A : Abs} {wa wb : List (ByteArray × Ver)} {M : List Bool} {L : List ByteArray} {wr w3 : World} (h : Mid w b g cap l A wa wb M L wr) {j : Nat} {x : ByteArray}
    (s3 : SAt K12 (fun k => k < w.heap.size ∨ k = g ∨ k = l) w3 b ((A.two wa wb).wrote (A.begun + 2) A.now wb (keyZ j) ⟨0, x, false⟩)) (k3 : Keeps (fun k => ¬ (k < w.heap.size ∨ k = g ∨ k = l)) wr w3) :
    Mid w b g cap l A wa (put wb (keyZ j) ⟨0, x, false⟩) M L w3 := by
  rw [two_wrote2] at s3
  exact ⟨s3, h.keep.trans k3 (fun k hk h => h (.inl hk)), h.apart, h.mine.kept k3 (fun k hk h => h (.inr (.inl (by simp [Value.ownBlock] at hk; exact hk.symm)))), h.last.kept k3 (fun k hk h => h (.inr (.inr (by simp [Value.ownBlock] at hk; exact hk.symm)))), h.tieM, h.tieL⟩

/-- The first row grows. -/
def MineAt (w4 : World) (v : Value) (k : Nat) (wr : World) : Prop :=
  Row wr 4 1 v k ((List.replicate k false).map Value.bool) ∧ (∀ g, v.ownBlock = some g → w4.heap.size ≤ g) ∧ Keeps (fun _ => False) w4 wr

theorem mine_step {w4 wr w5 : World} {v v' : Value} {k : Nat} {o : Obj} (h : MineAt w4 v k wr) (hr : Row w5 4 1 v' (k + 1) ((List.replicate k false).map Value.bool ++ [.bool false])) (hg : (wr.alloc o).grownBy w5 v.ownBlock) (ho : v'.ownBlock = v.ownBlock ∨ v'.ownBlock = some (wr.alloc o).heap.size) : MineAt w4 v' (k + 1) w5 := by
  have hz := h.2.2.size
  refine ⟨?_, fun g hg' => ?_, ?_⟩
  · have e : (List.replicate (k + 1) false).map Value.bool = (List.replicate k false).map Value.bool ++ [.bool false] := by
      rw [List.replicate_succ']; simp
    rw [e]; exact hr
  · rcases ho with e | e
    · exact h.2.1 g (by rw [← e]; exact hg')
    · rw [hg'] at e
      simp at e
      omega
  · refine (h.2.2.al o).trans (Keeps.grown hg) (fun j hj e => ?_)
    have := h.2.1 j e.symm
    omega

theorem made_list (z : Value) (n : Nat) : (madeCells #[z] n).toList = List.replicate n z := by
  rw [List.eq_replicate_iff]
  refine ⟨by simp [madeCells], fun u hu => ?_⟩
  simp only [madeCells, Array.toList_map, List.mem_map] at hu
  obtain ⟨i, _, rfl⟩ := hu
  simp [Nat.mod_one]

theorem mid_start {w w3 wr : World} {b g cap : Nat} {A : Abs} (s3 : SAt K12 (fun k => k < w.heap.size) w3 b (A.two [] [])) (k3 : Keeps (fun _ => False) w w3) (hM : MineAt (w3.alloc (.cells (madeCells #[.string ⟨#[]⟩] 12) 9)) (.slice (some ⟨g, 0, none⟩) 12 cap) 12 wr) :
    Mid w b g cap w3.heap.size A [] [] (List.replicate 12 false) (List.replicate 12 ByteArray.empty) wr := by
  obtain ⟨h1, h2, h3⟩ := hM
  have hg := h2 g rfl
  have z3 := k3.size
  simp at hg
  have k4 : Keeps (fun _ => False) w3 wr := ((Keeps.refl _ w3).al _).tr h3 (fun _ h => h)
  refine ⟨(s3.more (fun k hk => ?_)).kept k4 (fun _ _ h => h.elim), k3.tr k4 (fun _ h => h), ⟨by omega, z3, by omega⟩, h1, ?_, fun k hk => ?_, fun k hk v hv => (by cases hv)⟩
  · rcases hk with hk | rfl | rfl
    · exact .inl hk
    · exact .inr (by omega)
    · exact .inr (Nat.le_refl _)
  · have hb := heap_new w3 (.cells (madeCells #[.string ⟨#[]⟩] 12) 9)
    have hb2 := (h3.block w3.heap.size (by simp) (fun h => h)).trans hb
    exact ⟨by simp, .inr ⟨_, 12, _, rfl, hb2, by omega, by unfold maxLen; omega, by simp [size_madeCells], by rw [made_list]; rfl⟩⟩
  · rw [List.getElem?_replicate, if_pos hk]; rfl

theorem begin_two {w w2 : World} {b : Nat} {A : Abs} (s2 : SAt K12 (fun k => k < w.heap.size) w2 b A.opened) (hz : w.heap.size ≤ w2.heap.size) (hA : A.works = []) (hb : A.begun ≤ 100000) :
    Calls Try.prog 7 #[.pointer (some ⟨b, 0, none⟩)] w2 fun e w' => e = .returned (.tuple #[.int .i64 (A.begun + 2), .int .i64 0]) ∧ SAt K12 (fun k => k < w.heap.size) w' b (A.two [] []) ∧ Keeps (fun k => ¬ k < w.heap.size) w2 w' := by
  have e : A.opened.begun + 1 = A.begun + 2 := by simp only [Abs.opened]; omega
  refine (begin_s s2 (fun j hj => Nat.lt_of_lt_of_le hj hz) (by simp [Abs.opened, hA]) (by simp only [Abs.opened]; omega)).mono ?_
  rintro e' w' ⟨rfl, h1, h2⟩
  rw [two_start hA] at h1
  rw [e]
  exact ⟨rfl, h1, h2⟩

/-- The two rows, behind the works. -/
structure RowsAt (w : World) (g cap l : Nat) (wa : List (ByteArray × Ver)) (M : List Bool) (L : List ByteArray) (wr : World) : Prop where
  keep : Keeps (fun _ => False) w wr
  apart : w.heap.size ≤ g ∧ w.heap.size ≤ l ∧ g ≠ l
  mine : Row wr 4 1 (.slice (some ⟨g, 0, none⟩) 12 cap) 12 (M.map Value.bool)
  last : Row wr 9 1 (.slice (some ⟨l, 0, none⟩) 12 12) 12 (L.map Value.string)
  tieM : ∀ k : Nat, k < 12 → M[k]? = some ((look wa (keyZ k)).isSome)
  tieL : ∀ k : Nat, k < 12 → ∀ v, look wa (keyZ k) = some v → ∃ x, L[k]? = some x ∧ v = ⟨0, x, false⟩

theorem Mid.rows {w : World} {b g cap l : Nat} {A : Abs} {wa wb : List (ByteArray × Ver)} {M : List Bool} {L : List ByteArray} {wr : World} (h : Mid w b g cap l A wa wb M L wr) : RowsAt w g cap l wa M L wr :=
  ⟨h.keep, h.apart, h.mine, h.last, h.tieM, h.tieL⟩

theorem RowsAt.kept {w : World} {g cap l : Nat} {wa : List (ByteArray × Ver)} {M : List Bool} {L : List ByteArray} {wr w3 : World} (h : RowsAt w g cap l wa M L wr) (k3 : Keeps (fun k => ¬ (k < w.heap.size ∨ k = g ∨ k = l)) wr w3) : RowsAt w g cap l wa M L w3 :=
  ⟨h.keep.trans k3 (fun k hk h => h (.inl hk)), h.apart, h.mine.kept k3 (fun k hk h => h (.inr (.inl (by simp [Value.ownBlock] at hk; exact hk.symm)))), h.last.kept k3 (fun k hk h => h (.inr (.inr (by simp [Value.ownBlock] at hk; exact hk.symm)))), h.tieM, h.tieL⟩

theorem RowsAt.own {w : World} {g cap l : Nat} {wa : List (ByteArray × Ver)} {M : List Bool} {L : List ByteArray} {wr : World} (h : RowsAt w g cap l wa M L wr) : ∀ k, (k < w.heap.size ∨ k = g ∨ k = l) → k < wr.heap.size := by
  intro k hk
  have h1 := h.mine.block
  have h2 := h.last.block
  have h3 := h.keep.size
  omega

theorem RowsAt.cells {w : World} {g cap l : Nat} {wa : List (ByteArray × Ver)} {M : List Bool} {L : List ByteArray} {wr : World} (h : RowsAt w g cap l wa M L wr) {k : Nat} (hk : k < 12) :
    wr.cell? ⟨g, k, none⟩ = some (.bool (look wa (keyZ k)).isSome) ∧ ∃ x, wr.cell? ⟨l, k, none⟩ = some (.string x) ∧ ∀ v, look wa (keyZ k) = some v → v = ⟨0, x, false⟩ := by
  have e2 : L.length = 12 := by have := h.last.1; simpa using this
  refine ⟨?_, L.getD k ByteArray.empty, ?_, fun v hv => ?_⟩
  · rw [h.mine.cellAt k (by omega), List.getElem?_map, h.tieM k hk]; rfl
  · rw [h.last.cellAt k (by omega), List.getElem?_map]
    simp [List.getD, e2, hk]
  · obtain ⟨x, hx, e⟩ := h.tieL k hk v hv
    rw [List.getD, hx]
    exact e

/-- the state that the first became -/
def nowA (A : Abs) (wa : List (ByteArray × Ver)) : Int := if wa = [] then A.now else A.now + 1

/-- Commit of the first -/
theorem commit_a {O : Nat → Prop} {w : World} {b : Nat} {A : Abs} {wa wb : List (ByteArray × Ver)} (h : SAt K12 O w b (A.two wa wb)) (hO : ∀ k, O k → k < w.heap.size) (hA : Sound A) (hnow : A.now ≤ 100000) :
    Calls Try.prog 13 #[.pointer (some ⟨b, 0, none⟩), .int .i64 (A.begun + 1)] w fun e w' => e = .returned (.tuple #[.int .i64 (nowA A wa), .int .i64 0]) ∧ SAt K12 O w' b (A.after1 wa wb) ∧ Keeps (fun k => ¬ O k) w w' := by
  by_cases hwa : wa = []
  · subst hwa
    refine (commit_nil h (two_look1 A [] wb)).mono ?_
    rintro e w' ⟨rfl, h1, h2⟩
    rw [after1_nil] at h1
    exact ⟨by simp [nowA], h1, h2⟩
  · refine (commit_s h hO K12_len (two_look1 A wa wb) hwa (by show A.now < _; omega)).mono ?_
    rintro e w' ⟨⟨⟨k, _, hlt⟩, _⟩ | ⟨_, rfl, h1⟩, h2⟩
    · have := hA.last k
      have h' : A.now < lastOf (A.vers k) := hlt
      omega
    · rw [after1_some A wa wb hwa] at h1
      refine ⟨?_, h1, h2⟩
      unfold nowA
      rw [if_neg hwa]
      rfl

/-- Commit of the second: it has written nothing -/
theorem commit_b0 {O : Nat → Prop} {w : World} {b : Nat} {A : Abs} {wa : List (ByteArray × Ver)} (h : SAt K12 O w b (A.after1 wa [])) :
    Calls Try.prog 13 #[.pointer (some ⟨b, 0, none⟩), .int .i64 (A.begun + 2)] w fun e w' => e = .returned (.tuple #[.int .i64 A.now, .int .i64 0]) ∧ Keeps (fun k => ¬ O k) w w' := by
  refine (commit_nil h (after1_look A wa [])).mono ?_
  rintro e w' ⟨rfl, h1, h2⟩
  exact ⟨rfl, h2⟩

/-- .. a key that the first has written, too -/
theorem commit_b1 {O : Nat → Prop} {w : World} {b : Nat} {A : Abs} {wa wb : List (ByteArray × Ver)} (h : SAt K12 O w b (A.after1 wa wb)) (hO : ∀ k, O k → k < w.heap.size) (hA : Sound A) (hnow : A.now ≤ 100000) (hc : clashB wa wb = true) :
    Calls Try.prog 13 #[.pointer (some ⟨b, 0, none⟩), .int .i64 (A.begun + 2)] w fun e w' => e = .returned (.tuple #[.int .i64 0, .int .i64 4]) ∧ SAt K12 O w' b (A.after0 wa) ∧ Keeps (fun k => ¬ O k) w w' := by
  obtain ⟨k, hk, hs⟩ := (clashB_iff wa wb).1 hc
  have hwb : wb ≠ [] := fun e => by rw [e] at hk; cases hk
  refine (commit_s h hO K12_len (after1_look A wa wb) hwb (by show (if wa = [] then A.now else A.now + 1) < _; split <;> omega)).mono ?_
  rintro e w' ⟨⟨_, rfl, h1⟩ | ⟨hall, _⟩, h2⟩
  · rw [after0_eq] at h1
    exact ⟨rfl, h1, h2⟩
  · have h3 := hall k hk
    have h4 := (after1_last hA wa wb k).2 hs
    omega

/-- .. none -/
theorem commit_b2 {O : Nat → Prop} {w : World} {b : Nat} {A : Abs} {wa wb : List (ByteArray × Ver)} (h : SAt K12 O w b (A.after1 wa wb)) (hO : ∀ k, O k → k < w.heap.size) (hA : Sound A) (hnow : A.now ≤ 100000) (hwb : wb ≠ []) (hc : clashB wa wb = false) :
    Calls Try.prog 13 #[.pointer (some ⟨b, 0, none⟩), .int .i64 (A.begun + 2)] w fun e w' => e = .returned (.tuple #[.int .i64 (nowA A wa + 1), .int .i64 0]) ∧ Keeps (fun k => ¬ O k) w w' := by
  refine (commit_s h hO K12_len (after1_look A wa wb) hwb (by show (if wa = [] then A.now else A.now + 1) < _; split <;> omega)).mono ?_
  rintro e w' ⟨⟨⟨k, hk, hlt⟩, _⟩ | ⟨_, rfl, h1⟩, h2⟩
  · have h3 := (after1_last hA wa wb k).1 hlt
    have h4 := (clashB_iff wa wb).2 ⟨k, hk, h3⟩
    rw [hc] at h4
    cases h4
  · exact ⟨rfl, h2⟩

theorem clash_ne {wa wb : List (ByteArray × Ver)} (h : clashB wa wb = true) : wa ≠ [] ∧ wb ≠ [] := by
  obtain ⟨k, hk, hs⟩ := (clashB_iff wa wb).1 h
  exact ⟨fun e => (by rw [e] at hs; cases hs), fun e => (by rw [e] at hk; cases hk)⟩

/-- Look of two open works -/
theorem look_two {O : Nat → Prop} {w : World} {b : Nat} {A : Abs} {wa wb : List (ByteArray × Ver)} (h : SAt K12 O w b (A.two wa wb)) (hA : Sound A) :
    Calls Try.prog 12 #[.pointer (some ⟨b, 0, none⟩)] w fun e w' => (∃ x1 x2 x3 x4 x5 : Int, e = .returned (.agg #[.int .i64 A.now, .int .i64 x1, .int .i64 x2, .int .i64 x3, .int .i64 x4, .int .i64 x5])) ∧ SAt K12 O w' b (A.two wa wb) ∧ Keeps (fun _ => False) w w' := by
  refine (look_s h (by have := hA.begun; show 1 ≤ A.begun + 2; omega)).mono ?_
  rintro e w' ⟨⟨c, rfl⟩, h1, h2⟩
  exact ⟨⟨_, _, _, _, _, rfl⟩, h1, h2⟩

/-- behind both, works that begin and end -/
def Abs.late (A : Abs) (wa : List (ByteArray × Ver)) (n : Int) : Abs := { A.after0 wa with begun := n }

theorem late_look {O : Nat → Prop} {w : World} {b : Nat} {A : Abs} {wa : List (ByteArray × Ver)} {n : Int} (h : SAt K12 O w b (A.late wa n)) (hn : 1 ≤ n) :
    Calls Try.prog 12 #[.pointer (some ⟨b, 0, none⟩)] w fun e w' => (∃ x1 x2 x3 x4 x5 : Int, e = .returned (.agg #[.int .i64 (nowA A wa), .int .i64 x1, .int .i64 x2, .int .i64 x3, .int .i64 x4, .int .i64 x5])) ∧ Keeps (fun _ => False) w w' := by
  refine (look_s h hn).mono ?_
  rintro e w' ⟨⟨c, rfl⟩, h1, h2⟩
  exact ⟨⟨_, _, _, _, _, rfl⟩, h2⟩

theorem late_begin {O : Nat → Prop} {w : World} {b : Nat} {A : Abs} {wa : List (ByteArray × Ver)} {n : Int} (h : SAt K12 O w b (A.late wa n)) (hO : ∀ k, O k → k < w.heap.size) (hn : n ≤ 1000000) :
    Calls Try.prog 7 #[.pointer (some ⟨b, 0, none⟩)] w fun e w' => e = .returned (.tuple #[.int .i64 (n + 1), .int .i64 0]) ∧ SAt K12 O w' b (A.late wa n).opened ∧ Keeps (fun k => ¬ O k) w w' :=
  begin_s h hO (by simp [Abs.late, Abs.after0]) (by show n < _; omega)

theorem late_abort {O : Nat → Prop} {w : World} {b : Nat} {A : Abs} {wa : List (ByteArray × Ver)} {n : Int} (h : SAt K12 O w b (A.late wa n).opened) :
    Calls Try.prog 15 #[.pointer (some ⟨b, 0, none⟩), .int .i64 (n + 1)] w fun e w' => e = .returned (.int .i64 0) ∧ SAt K12 O w' b (A.late wa (n + 1)) ∧ Keeps (fun k => ¬ O k) w w' := by
  refine (abort_s (bg := (A.late wa n).now) (ws := []) h (by simp [Abs.opened, Abs.late, Abs.after0, look])).mono ?_
  rintro e w' ⟨rfl, h1, h2⟩
  refine ⟨rfl, ?_, h2⟩
  have e : (A.late wa n).opened.ended (n + 1) = A.late wa (n + 1) := by simp [Abs.opened, Abs.late, Abs.after0, Abs.ended, del]
  rwa [e] at h1

/-- Get, of a key that the first has put -/
theorem late_get {O : Nat → Prop} {w : World} {b : Nat} {A : Abs} {wa : List (ByteArray × Ver)} {n : Int} {k : Nat} {x : ByteArray} (h : SAt K12 O w b (A.late wa n).opened) (hA : Sound A) (hk : k < 12) (hx : look wa (keyZ k) = some ⟨0, x, false⟩) :
    Calls Try.prog 14 #[.pointer (some ⟨b, 0, none⟩), .int .i64 (n + 1), .string (keyZ k)] w fun e w' => e = .returned (.tuple #[.string x, .int .i64 0]) ∧ SAt K12 O w' b (A.late wa n).opened ∧ Keeps (fun _ => False) w w' := by
  refine (get_s (n := n + 1) (key := keyZ k) h (key_size (by omega) (by omega))).mono ?_
  rintro e w' ⟨rfl, h1, h2⟩
  have e := after0_get hA (wa := wa) (key := keyZ k) (val := x) (key_ok (by omega) (by omega)) hx n
  have e' : (A.late wa n).opened.get (n + 1) (keyZ k) = (x, 0) := e
  rw [e']
  exact ⟨rfl, h1, h2⟩

theorem state_now (y0 y1 y2 y3 y4 y5 : Int) (w : World) : (Instr.field 38 (.agg #[.int .i64 y0, .int .i64 y1, .int .i64 y2, .int .i64 y3, .int .i64 y4, .int .i64 y5]) 0).run Try.prog w = .ok (.int .i64 y0) w := by kernel_rfl

end Go.Proofs.Ytfcocbcihhdbkaa
