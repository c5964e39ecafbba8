import Derived.Test.YtkpaiaddikpdoaaGreatDoorM14
import Derived.Shelf.SlGeneric
import Derived.Shelf.SlIter.Nil
import Derived.Shelf.SortM.Plain
import Derived.Shelf.SortM.SortNone
import Derived.Ground.GgzProg
import Derived.Ground.SlgmProg
import Derived.Test.YtkpaiaddikpdoaaGreatDoorProg

/- annalsref: a scan: what is kept between two records of a block; a record's steps. -/

namespace Go.Proofs.YtkpaiaddikpdoaaGreatDoor

open Go.RowKit Go.Shelf

/-- between two records of a block: how the reading of all of them stands -/
structure MidR (n : Nat) (l1 : List UInt8) (k : Nat) (ahead : ByteArray) (done : List Rec) (l' : List UInt8) : Prop where
  le : k ≤ n
  len : done.length = k
  key : ahead.size ≤ 10
  short : l'.length ≤ l1.length
  same : recsR n [] l1 = (recsR (n - k) ahead.data.toList l').bind fun x l2 => .ok (done ++ x) l2

theorem MidR.zero (n : Nat) (l1 : List UInt8) : MidR n l1 0 ⟨#[]⟩ [] l1 := by
  refine ⟨Nat.zero_le _, rfl, Nat.zero_le _, Nat.le_refl _, ?_⟩
  show recsR n [] l1 = (recsR n [] l1).bind fun x l2 => .ok ([] ++ x) l2
  cases recsR n [] l1 <;> rfl

theorem MidR.bad {n : Nat} {l1 : List UInt8} {k : Nat} {ahead : ByteArray} {done : List Rec} {l' : List UInt8} (h : MidR n l1 k ahead done l') (hk : k < n) {left : Nat} (hx : recR ahead.data.toList l' = .bad left) : recsR n [] l1 = .bad left := by
  rw [h.same, show n - k = n - (k + 1) + 1 by omega, recsR, hx]
  rfl

theorem MidR.all_ {n : Nat} {l1 : List UInt8} {ahead : ByteArray} {done : List Rec} {l' : List UInt8} (h : MidR n l1 n ahead done l') : recsR n [] l1 = .ok done l' := by
  rw [h.same, Nat.sub_self, recsR]
  simp [Rd.bind]

theorem MidR.next {n : Nat} {l1 : List UInt8} {k : Nat} {ahead : ByteArray} {done : List Rec} {l' l2 : List UInt8} {r : Rec} (h : MidR n l1 k ahead done l') (hk : k < n) (hx : recR ahead.data.toList l' = .ok r l2) (hr : r.key.length ≤ 10) (hl : l2.length < l'.length) : MidR n l1 (k + 1) (ofL r.key) (done ++ [r]) l2 := by
  refine ⟨hk, by rw [List.length_append, List.length_singleton, h.len], by rw [ofL_size]; exact hr, by have := h.short; omega, ?_⟩
  rw [h.same, show n - k = n - (k + 1) + 1 by omega, recsR, hx, Rd.bind_ok, ofL_list]
  rcases recsR (n - (k + 1)) r.key l2 with q | ⟨x, l3⟩
  · rfl
  · simp [Rd.bind]

/-! a record, step by step -/

theorem recR_bad1 {ah l : List UInt8} {j : Nat} (h : bndR 0 ah.length l = .bad j) : recR ah l = .bad j := by unfold recR; rw [h]; rfl

theorem recR_bad2 {ah l l1 : List UInt8} {c j : Nat} (h : bndR 0 ah.length l = .ok c l1) (h2 : bndR (1 - c) (10 - c) l1 = .bad j) : recR ah l = .bad j := by unfold recR; rw [h, Rd.bind_ok, h2]; rfl

theorem recR_bad3 {ah l l1 l2 : List UInt8} {c m j : Nat} (h : bndR 0 ah.length l = .ok c l1) (h2 : bndR (1 - c) (10 - c) l1 = .ok m l2) (h3 : takeR m l2 = .bad j) : recR ah l = .bad j := by unfold recR; rw [h, Rd.bind_ok, h2, Rd.bind_ok, h3]; rfl

theorem recR_bad4 {ah l l1 l2 l3 x : List UInt8} {c m j : Nat} (h : bndR 0 ah.length l = .ok c l1) (h2 : bndR (1 - c) (10 - c) l1 = .ok m l2) (h3 : takeR m l2 = .ok x l3) (h4 : bndR 0 41 l3 = .bad j) : recR ah l = .bad j := by unfold recR; rw [h, Rd.bind_ok, h2, Rd.bind_ok, h3, Rd.bind_ok, h4]; rfl

theorem recR_val {ah l l1 l2 l3 l4 x : List UInt8} {c m s : Nat} (h : bndR 0 ah.length l = .ok c l1) (h2 : bndR (1 - c) (10 - c) l1 = .ok m l2) (h3 : takeR m l2 = .ok x l3) (h4 : bndR 0 41 l3 = .ok s l4) : recR ah l = valR (ah.take c ++ x) s l4 := by unfold recR; rw [h, Rd.bind_ok, h2, Rd.bind_ok, h3, Rd.bind_ok, h4, Rd.bind_ok]

end Go.Proofs.YtkpaiaddikpdoaaGreatDoor

/- annalsref: a scan with what is wrong carried on: number, take; a record's steps. -/

namespace Go.Proofs.YtkpaiaddikpdoaaGreatDoor

open Go.RowKit Go.Shelf

/-- a scan, good or bad -/
def ScS (w : World) (sb : Nat) (text : ByteArray) : Rd Unit → Prop
  | .inl k => ScBad w sb text (text.size - k)
  | .inr (_, l) => ScL w sb text l

/-- the cell 'bad' -/
def badI (text : ByteArray) : Rd Unit → Int
  | .inl k => ((text.size - k : Nat) : Int)
  | .inr (_, _) => -1

def numS (lo hi : Nat) : Rd Unit → Nat × Rd Unit
  | .inl k => (lo, .bad k)
  | .inr (_, l) => match bndR lo hi l with
    | .inr (n, r) => (n, .ok () r)
    | .inl _ => (lo, .bad l.length)

def takeS (n : Nat) : Rd Unit → List UInt8 × Rd Unit
  | .inl k => ([], .bad k)
  | .inr (_, l) => match takeR n l with
    | .inr (x, r) => (x, .ok () r)
    | .inl k => ([], .bad k)

theorem numS_le {lo hi : Nat} (h : lo ≤ hi) (s : Rd Unit) : lo ≤ (numS lo hi s).1 ∧ (numS lo hi s).1 ≤ hi := by
  rcases s with k | ⟨u, l⟩
  · exact ⟨Nat.le_refl _, h⟩
  · rcases hx : bndR lo hi l with k | ⟨n, r⟩
    · simp only [numS, hx]; exact ⟨Nat.le_refl _, h⟩
    · simp only [numS, hx]; exact ⟨(bndR_ok hx).2.1, (bndR_ok hx).2.2⟩

theorem takeS_len (n : Nat) (s : Rd Unit) : (takeS n s).1.length ≤ n := by
  rcases s with k | ⟨u, l⟩
  · exact Nat.zero_le _
  · by_cases h : n ≤ l.length
    · simp only [takeS, takeR, if_pos h, List.length_take]
      omega
    · simp only [takeS, takeR, if_neg h]
      exact Nat.zero_le _

theorem ScS.facts {w : World} {sb : Nat} {text : ByteArray} {s : Rd Unit} (h : ScS w sb text s) : ∃ at_, at_ ≤ text.size ∧ ScAt w sb text at_ (badI text s) := by
  rcases s with k | ⟨u, l⟩
  · exact h
  · exact ⟨_, Nat.sub_le _ _, h.2⟩

theorem ScS.kept {S : Nat → Prop} {w w' : World} {sb : Nat} {text : ByteArray} {s : Rd Unit} (h : ScS w sb text s) (hk : Keeps S w w') (hS : ¬ S sb) : ScS w' sb text s := by
  rcases s with k | ⟨u, l⟩
  · obtain ⟨at_, h1, h2⟩ := h
    exact ⟨at_, h1, h2.kept hk hS⟩
  · exact ⟨h.1, h.2.kept hk hS⟩

theorem badI_lt (text : ByteArray) (s : Rd Unit) : badI text s < 0 ↔ ∃ l, s = .ok () l := by
  rcases s with k | ⟨u, l⟩
  · refine ⟨fun h => absurd (show ((text.size - k : Nat) : Int) < 0 from h) (by omega), ?_⟩
    rintro ⟨l, h⟩
    cases h
  · exact ⟨fun _ => ⟨l, rfl⟩, fun _ => show (-1 : Int) < 0 by omega⟩

def ScNumS (sb : Nat) (text : ByteArray) (w : World) (x : Nat × Rd Unit) (e : Ending) (w' : World) : Prop := e = .returned (.int .i64 (x.1 : Nat)) ∧ ScS w' sb text x.2 ∧ Keeps (· = sb) w w'

def ScTakeS (sb : Nat) (text : ByteArray) (w : World) (x : List UInt8 × Rd Unit) (e : Ending) (w' : World) : Prop := e = .returned (.string (ofL x.1)) ∧ ScS w' sb text x.2 ∧ Keeps (· = sb) w w'

theorem scNum_all (sb : Nat) (text : ByteArray) (s : Rd Unit) (lo hi : Nat) (w : World) (h : ScS w sb text s) (hts : text.size ≤ 1000000000000) (hhi : hi ≤ 34359738367) (hlo : lo ≤ 34359738367) :
    Calls Tryz.prog 25 #[.pointer (some ⟨sb, 0, none⟩), .int .i64 (lo : Nat), .int .i64 (hi : Nat)] w (ScNumS sb text w (numS lo hi s)) := by
  rcases s with k | ⟨u, l⟩
  · refine (scNum_bad sb text _ lo hi w h).mono ?_
    rintro e w' ⟨rfl, rfl⟩
    exact ⟨rfl, h, Keeps.refl _ _⟩
  · refine (scNum_any sb text l lo hi w h hts hhi hlo).mono ?_
    rintro e w' ⟨h1, hk⟩
    rcases hx : bndR lo hi l with k | ⟨n, r⟩
    · rw [hx] at h1
      simp only [numS, hx]
      exact ⟨h1.1, h1.2, hk⟩
    · rw [hx] at h1
      simp only [numS, hx]
      exact ⟨h1.1, h1.2, hk⟩

theorem scTake_all (sb : Nat) (text : ByteArray) (s : Rd Unit) (n : Nat) (w : World) (h : ScS w sb text s) (hts : text.size ≤ 1000000000000) (hn : n ≤ 1000000000000) :
    Calls Tryz.prog 24 #[.pointer (some ⟨sb, 0, none⟩), .int .i64 (n : Nat)] w (ScTakeS sb text w (takeS n s)) := by
  rcases s with k | ⟨u, l⟩
  · refine (scTake_bad sb text _ n w h).mono ?_
    rintro e w' ⟨rfl, h1, hk⟩
    exact ⟨rfl, h1, hk.mono (fun _ _ h => h.elim)⟩
  · refine (scTake_any sb text l n w h hts hn).mono ?_
    rintro e w' ⟨h1, hk⟩
    rcases hx : takeR n l with k | ⟨x, r⟩
    · rw [hx] at h1
      simp only [takeS, hx]
      exact ⟨h1.1, h1.2, hk⟩
    · rw [hx] at h1
      simp only [takeS, hx]
      exact ⟨h1.1, h1.2, hk⟩

theorem numS_ok {lo hi : Nat} {l : List UInt8} {n : Nat} {s : Rd Unit} (h : numS lo hi (.ok () l) = (n, s)) : (∃ r, bndR lo hi l = .ok n r ∧ s = .ok () r) ∨ (∃ k, bndR lo hi l = .bad k ∧ s = .bad k ∧ n = lo) := by
  rcases hx : bndR lo hi l with k | ⟨m, r⟩
  · simp only [numS, hx, Prod.mk.injEq] at h
    obtain ⟨rfl, rfl⟩ := h
    exact .inr ⟨k, rfl, by rw [bndR_bad hx], rfl⟩
  · simp only [numS, hx, Prod.mk.injEq] at h
    obtain ⟨rfl, rfl⟩ := h
    exact .inl ⟨r, rfl, rfl⟩

theorem takeS_ok {n : Nat} {l x : List UInt8} {s : Rd Unit} (h : takeS n (.ok () l) = (x, s)) : (∃ r, takeR n l = .ok x r ∧ s = .ok () r) ∨ (∃ k, takeR n l = .bad k ∧ s = .bad k ∧ x = []) := by
  rcases hx : takeR n l with k | ⟨m, r⟩
  · simp only [takeS, hx, Prod.mk.injEq] at h
    obtain ⟨rfl, rfl⟩ := h
    exact .inr ⟨k, rfl, rfl, rfl⟩
  · simp only [takeS, hx, Prod.mk.injEq] at h
    obtain ⟨rfl, rfl⟩ := h
    exact .inl ⟨r, rfl, rfl⟩

def valS (sz : Nat) (s : Rd Unit) : List UInt8 × Rd Unit := if sz = 0 then ([], s) else takeS (sz - 1) s

theorem valS_bad (sz k : Nat) : valS sz (.bad k) = ([], .bad k) := by unfold valS; split <;> rfl

theorem recS_eq {ah l x v : List UInt8} {c m sz : Nat} {s1 s2 s3 s4 s5 : Rd Unit} (h1 : numS 0 ah.length (.ok () l) = (c, s1)) (h2 : numS (1 - c) (10 - c) s1 = (m, s2)) (h3 : takeS m s2 = (x, s3)) (h4 : numS 0 41 s3 = (sz, s4)) (h5 : valS sz s4 = (v, s5)) :
    (∃ k, recR ah l = .bad k ∧ s5 = .bad k) ∨ ∃ l2, recR ah l = .ok ⟨ah.take c ++ x, v, decide (sz = 0)⟩ l2 ∧ s5 = .ok () l2 := by
  rcases numS_ok h1 with ⟨r1, e1, rfl⟩ | ⟨k, e1, rfl, rfl⟩
  · rcases numS_ok h2 with ⟨r2, e2, rfl⟩ | ⟨k, e2, rfl, rfl⟩
    · rcases takeS_ok h3 with ⟨r3, e3, rfl⟩ | ⟨k, e3, rfl, rfl⟩
      · rcases numS_ok h4 with ⟨r4, e4, rfl⟩ | ⟨k, e4, rfl, rfl⟩
        · have e := recR_val e1 e2 e3 e4
          unfold valS at h5
          unfold valR at e
          by_cases h0 : sz = 0
          · rw [if_pos h0, Prod.mk.injEq] at h5
            obtain ⟨rfl, rfl⟩ := h5
            rw [if_pos h0] at e
            exact .inr ⟨r4, by rw [e, decide_eq_true h0], rfl⟩
          · rw [if_neg h0] at h5 e
            rcases takeS_ok h5 with ⟨r5, e5, rfl⟩ | ⟨k, e5, rfl, rfl⟩
            · rw [e5] at e
              exact .inr ⟨r5, by rw [e, decide_eq_false h0]; rfl, rfl⟩
            · rw [e5] at e
              exact .inl ⟨k, e, rfl⟩
        · rw [valS_bad, Prod.mk.injEq] at h5
          exact .inl ⟨k, recR_bad4 e1 e2 e3 e4, h5.2.symm⟩
      · simp only [numS, Prod.mk.injEq] at h4
        obtain ⟨-, rfl⟩ := h4
        rw [valS_bad, Prod.mk.injEq] at h5
        exact .inl ⟨k, recR_bad3 e1 e2 e3, h5.2.symm⟩
    · simp only [takeS, Prod.mk.injEq] at h3
      obtain ⟨-, rfl⟩ := h3
      simp only [numS, Prod.mk.injEq] at h4
      obtain ⟨-, rfl⟩ := h4
      rw [valS_bad, Prod.mk.injEq] at h5
      exact .inl ⟨k, recR_bad2 e1 e2, h5.2.symm⟩
  · simp only [numS, Prod.mk.injEq] at h2
    obtain ⟨-, rfl⟩ := h2
    simp only [takeS, Prod.mk.injEq] at h3
    obtain ⟨-, rfl⟩ := h3
    simp only [numS, Prod.mk.injEq] at h4
    obtain ⟨-, rfl⟩ := h4
    rw [valS_bad, Prod.mk.injEq] at h5
    exact .inl ⟨k, recR_bad1 e1, h5.2.symm⟩

end Go.Proofs.YtkpaiaddikpdoaaGreatDoor

/- Lists of records that rise (out of SA, U, U7, R1, QA). -/

namespace Go.Proofs.YtkpaiaddikpdoaaGreatDoor

open Go.RowKit Go.Shelf

def Rises (ks : List ByteArray) : Prop := ks.Pairwise (fun a b => ltK a b = true)

theorem rises_cons {x : ByteArray} {r : List ByteArray} (h : Rises (x :: r)) : (∀ y ∈ r, ltK x y = true) ∧ Rises r := List.pairwise_cons.1 h

/-- Two rising lists with the same members are one. -/
theorem rises_ext : ∀ {xs ys : List ByteArray}, Rises xs → Rises ys → (∀ k, k ∈ xs ↔ k ∈ ys) → xs = ys
  | [], [], _, _, _ => rfl
  | [], y :: ys, _, _, h => by have := (h y).2 (by simp); cases this
  | x :: xs, [], _, _, h => by have := (h x).1 (by simp); cases this
  | x :: xs, y :: ys, hx, hy, h => by
    obtain ⟨hx1, hx2⟩ := rises_cons hx
    obtain ⟨hy1, hy2⟩ := rises_cons hy
    have e : x = y := by
      rcases List.mem_cons.1 ((h x).1 (by simp)) with e | h1
      · exact e
      · rcases List.mem_cons.1 ((h y).2 (by simp)) with e | h2
        · exact e.symm
        · have := ltK_trans (hy1 x h1) (hx1 y h2)
          rw [ltK_irrefl] at this
          cases this
    subst e
    have hnx : ∀ l : List ByteArray, (∀ z ∈ l, ltK x z = true) → x ∉ l := fun l hl hm => by
      have := hl x hm
      rw [ltK_irrefl] at this
      cases this
    congr 1
    refine rises_ext hx2 hy2 (fun k => ⟨fun hk => ?_, fun hk => ?_⟩)
    · rcases List.mem_cons.1 ((h k).1 (List.mem_cons_of_mem _ hk)) with e | h1
      · exact absurd (e ▸ hk) (hnx xs hx1)
      · exact h1
    · rcases List.mem_cons.1 ((h k).2 (List.mem_cons_of_mem _ hk)) with e | h1
      · exact absurd (e ▸ hk) (hnx ys hy1)
      · exact h1

def hasL (l : List RecB) (key : ByteArray) : Option RecB := l.find? (fun x => decide (x.key = key))

def RRises (l : List RecB) : Prop := l.Pairwise (fun a b => ltK a.key b.key = true)

theorem place_in (r : RecB) : ∀ (l s : List RecB), l.foldl (placeStep r) (s, true) = (s ++ l.filter (fun x => decide (x.key ≠ r.key)), true)
  | [], s => by simp
  | x :: l, s => by
    rw [List.foldl_cons]
    by_cases h : x.key = r.key
    · have e : placeStep r (s, true) x = (s, true) := by simp [placeStep, h]
      rw [e, place_in r l s]
      simp [h]
    · have e : placeStep r (s, true) x = (s ++ [x], true) := by simp [placeStep, h]
      rw [e, place_in r l (s ++ [x])]
      simp [h]

theorem place_out (r : RecB) : ∀ (l s : List RecB), l.foldl (placeStep r) (s, false) = if l.dropWhile (fun x => ltK x.key r.key) = [] then (s ++ l.takeWhile (fun x => ltK x.key r.key), false) else (s ++ l.takeWhile (fun x => ltK x.key r.key) ++ r :: (l.dropWhile (fun x => ltK x.key r.key)).filter (fun x => decide (x.key ≠ r.key)), true)
  | [], s => by simp
  | x :: l, s => by
    rw [List.foldl_cons]
    cases h : ltK x.key r.key with
    | true =>
      have hne : x.key ≠ r.key := fun e => by rw [e, ltK_irrefl] at h; cases h
      have e : placeStep r (s, false) x = (s ++ [x], false) := by simp [placeStep, h, hne]
      rw [e, place_out r l (s ++ [x])]
      simp [h]
    | false =>
      by_cases hk : x.key = r.key
      · have e : placeStep r (s, false) x = (s ++ [r], true) := by simp [placeStep, hk, ltK_irrefl]
        rw [e, place_in r l (s ++ [r])]
        simp [hk, ltK_irrefl]
      · have e : placeStep r (s, false) x = (s ++ [r] ++ [x], true) := by simp [placeStep, h, hk]
        rw [e, place_in r l (s ++ [r] ++ [x])]
        simp [h, hk]

theorem placedL_eq (l : List RecB) (r : RecB) : placedL l r = l.takeWhile (fun x => ltK x.key r.key) ++ r :: (l.dropWhile (fun x => ltK x.key r.key)).filter (fun x => decide (x.key ≠ r.key)) := by
  unfold placedL placeTo
  rw [place_out r l []]
  by_cases h : l.dropWhile (fun x => ltK x.key r.key) = []
  · rw [if_pos h, h]
    simp
  · rw [if_neg h]
    simp

theorem mem_takeWhile {α : Type} {p : α → Bool} : ∀ {l : List α} {x : α}, x ∈ l.takeWhile p → p x = true ∧ x ∈ l
  | [], x, h => by simp at h
  | a :: l, x, h => by
    rw [List.takeWhile_cons] at h
    cases ha : p a with
    | true =>
      rw [ha] at h
      rcases List.mem_cons.1 h with rfl | h
      · exact ⟨ha, by simp⟩
      · exact ⟨(mem_takeWhile h).1, List.mem_cons_of_mem _ (mem_takeWhile h).2⟩
    | false => rw [ha] at h; simp at h

theorem placed_has (l : List RecB) (r : RecB) (k : ByteArray) : hasL (placedL l r) k = if r.key = k then some r else hasL l k := by
  rw [placedL_eq]
  unfold hasL
  rw [List.find?_append, List.find?_cons]
  by_cases h : r.key = k
  · rw [if_pos h]
    have h1 : (l.takeWhile (fun x => ltK x.key r.key)).find? (fun x => decide (x.key = k)) = none := by
      rw [List.find?_eq_none]
      intro x hx hk
      have hk' : x.key = k := by simpa using hk
      have := (mem_takeWhile hx).1
      rw [hk', ← h, ltK_irrefl] at this
      cases this
    rw [h1]
    simp [h]
  · rw [if_neg h]
    have h2 : decide (r.key = k) = false := by simp [h]
    rw [h2]
    conv => rhs; rw [← List.takeWhile_append_dropWhile (p := fun x : RecB => ltK x.key r.key) (l := l), List.find?_append]
    congr 1
    show List.find? _ (List.filter _ _) = _
    rw [List.find?_filter]
    congr 1
    funext x
    by_cases hx : x.key = k
    · have : x.key ≠ r.key := fun e => h (e ▸ hx)
      simp [hx, Ne.symm h]
    · simp [hx]

theorem dropWhile_ge {r : RecB} : ∀ {l : List RecB}, RRises l → ∀ x ∈ l.dropWhile (fun x => ltK x.key r.key), ltK x.key r.key = false
  | [], _, x, h => by simp at h
  | a :: l, hr, x, h => by
    obtain ⟨h1, h2⟩ := List.pairwise_cons.1 hr
    rw [List.dropWhile_cons] at h
    cases ha : ltK a.key r.key with
    | true =>
      rw [ha] at h
      exact dropWhile_ge h2 x h
    | false =>
      rw [ha] at h
      rcases List.mem_cons.1 h with rfl | h
      · exact ha
      · cases hx : ltK x.key r.key with
        | false => rfl
        | true =>
          have := ltK_trans (h1 x h) hx
          rw [ha] at this
          cases this

theorem placed_rises {l : List RecB} (h : RRises l) (r : RecB) : RRises (placedL l r) := by
  rw [placedL_eq]
  have hs1 : RRises (l.takeWhile (fun x => ltK x.key r.key)) := h.sublist (List.takeWhile_sublist _)
  have hs2 : RRises ((l.dropWhile (fun x => ltK x.key r.key)).filter (fun x => decide (x.key ≠ r.key))) := h.sublist (List.filter_sublist.trans (List.dropWhile_sublist _))
  have hgt : ∀ y ∈ (l.dropWhile (fun x => ltK x.key r.key)).filter (fun x => decide (x.key ≠ r.key)), ltK r.key y.key = true := fun y hy => by
    obtain ⟨h1, h2⟩ := List.mem_filter.1 hy
    have h3 := dropWhile_ge h y h1
    have h4 : y.key ≠ r.key := by simpa using h2
    cases h5 : ltK r.key y.key with
    | true => rfl
    | false => exact absurd (ltK_total h3 h5) h4
  refine List.pairwise_append.2 ⟨hs1, List.pairwise_cons.2 ⟨hgt, hs2⟩, fun x hx y hy => ?_⟩
  have h1 := (mem_takeWhile hx).1
  rcases List.mem_cons.1 hy with rfl | hy
  · exact h1
  · exact ltK_trans h1 (hgt y hy)

theorem has_some {l : List RecB} {k : ByteArray} {r : RecB} (h : hasL l k = some r) : r ∈ l ∧ r.key = k := by
  unfold hasL at h
  exact ⟨List.mem_of_find?_eq_some h, by simpa using List.find?_some h⟩

theorem has_of_mem : ∀ {l : List RecB}, RRises l → ∀ {r : RecB}, r ∈ l → hasL l r.key = some r
  | [], _, r, h => by cases h
  | a :: l, hr, r, h => by
    obtain ⟨h1, h2⟩ := List.pairwise_cons.1 hr
    unfold hasL
    rw [List.find?_cons]
    rcases List.mem_cons.1 h with rfl | h
    · simp
    · have hne : a.key ≠ r.key := fun e => by
        have := h1 r h
        rw [e, ltK_irrefl] at this
        cases this
      have : decide (a.key = r.key) = false := by simp [hne]
      rw [this]
      exact has_of_mem h2 h

theorem has_isSome (l : List RecB) (k : ByteArray) : (hasL l k).isSome = true ↔ k ∈ l.map RecB.key := by
  unfold hasL
  rw [List.find?_isSome]
  simp

theorem stand_has {l : List RecB} (h : RRises l) (k : ByteArray) : hasL (standingL l) k = (hasL l k).filter (fun r => !r.gone) := by
  have hs : RRises (standingL l) := h.sublist List.filter_sublist
  apply Option.ext
  intro r
  rw [Option.filter_eq_some_iff]
  constructor
  · intro hh
    obtain ⟨h1, h2⟩ := has_some hh
    obtain ⟨h3, h4⟩ := List.mem_filter.1 h1
    exact ⟨h2 ▸ has_of_mem h h3, h4⟩
  · rintro ⟨h1, h2⟩
    obtain ⟨h3, h4⟩ := has_some h1
    rw [← h4]
    exact has_of_mem hs (List.mem_filter.2 ⟨h3, h2⟩)

end Go.Proofs.YtkpaiaddikpdoaaGreatDoor

/- Merge, pure: the chain's map of last records against the document's list. -/

namespace Go.Proofs.YtkpaiaddikpdoaaGreatDoor

open Go.RowKit Go.Shelf

/-- one record more in the chain -/
def chStep (full : Bool) (M : List (ByteArray × RecB)) (r : RecB) : List (ByteArray × RecB) := if full && r.gone then del M r.key else put M r.key r

/-- what the map holds of the list -/
def seenC (full : Bool) (o : Option RecB) : Option RecB := if full then o.filter (fun r => !r.gone) else o

def outC (full : Bool) (L : List RecB) : List RecB := if full then standingL L else L

/-- the map beside the list -/
structure InvC (full : Bool) (M : List (ByteArray × RecB)) (L : List RecB) : Prop where
  rises : RRises L
  nodup : (M.map (·.1)).Nodup
  same : ∀ k, look M k = seenC full (hasL L k)

theorem InvC.zero (full : Bool) : InvC full [] [] := ⟨List.Pairwise.nil, List.nodup_nil, fun k => by cases full <;> rfl⟩

theorem del_nodup {β : Type} : ∀ {M : List (ByteArray × β)} (k : ByteArray), (M.map (·.1)).Nodup → ((del M k).map (·.1)).Nodup := fun {M} k h => by
  rw [del_filter M h k]
  exact h.sublist (List.filter_sublist.map _)

theorem put_nodup {β : Type} {M : List (ByteArray × β)} (k : ByteArray) (v : β) (h : (M.map (·.1)).Nodup) : ((put M k v).map (·.1)).Nodup := by
  cases hx : look M k with
  | some x => rw [keys_put_some hx]; exact h
  | none =>
    rw [put_none hx, List.map_append, List.nodup_append]
    refine ⟨h, by simp, fun a ha b hb e => ?_⟩
    obtain ⟨p, hp, rfl⟩ := List.mem_map.1 ha
    simp at hb
    exact look_none.1 hx p hp (by rw [e, hb])

theorem InvC.step {full : Bool} {M : List (ByteArray × RecB)} {L : List RecB} (h : InvC full M L) (r : RecB) : InvC full (chStep full M r) (placedL L r) := by
  refine ⟨placed_rises h.rises r, ?_, fun k => ?_⟩
  · unfold chStep
    split
    · exact del_nodup _ h.nodup
    · exact put_nodup _ _ h.nodup
  · rw [placed_has]
    unfold chStep
    split
    · rename_i hc
      simp only [Bool.and_eq_true] at hc
      rw [look_del M h.nodup]
      by_cases e : r.key = k
      · rw [if_pos e, if_pos e]
        unfold seenC
        rw [if_pos hc.1, Option.filter_some, hc.2]
        rfl
      · rw [if_neg e, if_neg e, h.same]
    · rename_i hc
      rw [look_put]
      by_cases e : r.key = k
      · rw [if_pos e, if_pos e]
        unfold seenC
        cases full with
        | false => rfl
        | true =>
          have hg : r.gone = false := by simpa using hc
          rw [if_pos rfl, Option.filter_some, hg]
          rfl
      · rw [if_neg e, if_neg e, h.same]

theorem InvC.steps {full : Bool} : ∀ (rs : List RecB) {M : List (ByteArray × RecB)} {L : List RecB}, InvC full M L → InvC full (rs.foldl (chStep full) M) (rs.foldl placedL L)
  | [], _, _, h => h
  | r :: rs, _, _, h => InvC.steps rs (h.step r)

theorem outC_rises {full : Bool} {L : List RecB} (h : RRises L) : RRises (outC full L) := by
  unfold outC
  split
  · exact h.sublist List.filter_sublist
  · exact h

theorem outC_has {full : Bool} {L : List RecB} (h : RRises L) (k : ByteArray) : hasL (outC full L) k = seenC full (hasL L k) := by
  unfold outC seenC
  split
  · exact stand_has h k
  · rfl

/-- the sorted keys' records are the document's list -/
theorem InvC.out {full : Bool} {M : List (ByteArray × RecB)} {L : List RecB} (h : InvC full M L) {ks : List ByteArray} (hr : Rises ks) (hp : ks.Perm (M.map (·.1))) : ks.map (look M) = (outC full L).map some := by
  have hO := outC_rises (full := full) h.rises
  have hs : ∀ k, look M k = hasL (outC full L) k := fun k => by rw [h.same, outC_has h.rises]
  have hk : ks = (outC full L).map RecB.key := by
    refine rises_ext hr (List.pairwise_map.2 hO) (fun k => ?_)
    rw [hp.mem_iff, ← has_isSome, ← hs]
    constructor
    · intro hk
      cases hx : look M k with
      | some x => rfl
      | none =>
        obtain ⟨p, hp1, hp2⟩ := List.mem_map.1 hk
        exact absurd hp2 (look_none.1 hx p hp1)
    · intro hk
      obtain ⟨x, hx⟩ := Option.isSome_iff_exists.1 hk
      exact List.mem_map.2 ⟨_, look_mem hx, rfl⟩
  rw [hk, List.map_map]
  apply List.map_congr_left
  intro r hr
  show look M r.key = some r
  rw [hs, has_of_mem hO hr]

end Go.Proofs.YtkpaiaddikpdoaaGreatDoor

/- The library's facts that the walks lean on, at this program: numbers of functions and types, and one theorem each. -/

namespace Go.Proofs

open Go.Shelf

def Tryz.keys51_ren : Go.Shelf.Ren := ⟨fun | 7 => 51 | 10 => 72 | n => n, fun | 23 => 74 | 26 => 9 | 3 => 31 | 28 => 113 | 0 => 0 | 27 => 112 | 33 => 36 | 4 => 4 | n => n, fun | n => n⟩

theorem Tryz.keys51 : Go.Proofs.SlLaysZ.n7 Tryz.prog Tryz.keys51_ren := {
  mixed := by kernel_rfl
  f7 := ⟨Tryz.f51.name, by decide, Tryz.func51.trans (congrArg some (by kernel_rfl))⟩
  f10 := ⟨Tryz.f72.name, by decide, Tryz.func72.trans (congrArg some (by kernel_rfl))⟩
  t0 := Tryz.underlying0
  a0 := Tryz.isAgg0
  z0 := Tryz.sizeOf0
  v0 := Tryz.zeroValue0
  t4 := Tryz.underlying4
  a4 := Tryz.isAgg4
  z4 := Tryz.sizeOf4
  v4 := Tryz.zeroValue4
  t23 := Tryz.underlying74
  a23 := Tryz.isAgg74
  z23 := Tryz.sizeOf74
  v23 := Tryz.zeroValue74
  t26 := Tryz.underlying9
  a26 := Tryz.isAgg9
  z26 := Tryz.sizeOf9
  v26 := Tryz.zeroValue9
  t27 := Tryz.underlying112
  a27 := Tryz.isAgg112
  z27 := Tryz.sizeOf112
  v27 := Tryz.zeroValue112
  t28 := Tryz.underlying113
  a28 := Tryz.isAgg113
  z28 := Tryz.sizeOf113
  v28 := Tryz.zeroValue113
  t33 := Tryz.underlying36
  a33 := Tryz.isAgg36
  z33 := Tryz.sizeOf36
  v33 := Tryz.zeroValue36 }

def Tryz.sorted50_ren : Go.Shelf.Ren := ⟨fun | 6 => 50 | 8 => 70 | 9 => 71 | 11 => 82 | 13 => 84 | 12 => 83 | 23 => 95 | 24 => 96 | 14 => 86 | 15 => 87 | 16 => 88 | 17 => 89 | 18 => 90 | 19 => 91 | 20 => 92 | 21 => 93 | 22 => 94 | 25 => 98 | 26 => 99 | 27 => 100 | 28 => 101 | 29 => 102 | 30 => 103 | 31 => 104 | n => n, fun | 26 => 9 | 28 => 113 | 24 => 23 | 0 => 0 | 3 => 3 | 37 => 151 | 48 => 81 | 50 => 177 | 4 => 4 | 40 => 168 | 39 => 167 | 45 => 173 | 5 => 5 | 9 => 9 | 51 => 178 | 55 => 182 | 57 => 184 | 58 => 185 | 33 => 36 | n => n, fun | n => n⟩

theorem Tryz.sorted50 : Go.Proofs.SlLaysZ.n6 Tryz.prog Tryz.sorted50_ren := {
  mixed := by kernel_rfl
  f6 := ⟨Tryz.f50.name, by decide, Tryz.func50.trans (congrArg some (by kernel_rfl))⟩
  f8 := ⟨Tryz.f70.name, by decide, Tryz.func70.trans (congrArg some (by kernel_rfl))⟩
  f11 := ⟨Tryz.f82.name, by decide, Tryz.func82.trans (congrArg some (by kernel_rfl))⟩
  t0 := Tryz.underlying0
  a0 := Tryz.isAgg0
  z0 := Tryz.sizeOf0
  v0 := Tryz.zeroValue0
  t24 := Tryz.underlying23
  a24 := Tryz.isAgg23
  z24 := Tryz.sizeOf23
  v24 := Tryz.zeroValue23
  t26 := Tryz.underlying9
  a26 := Tryz.isAgg9
  z26 := Tryz.sizeOf9
  v26 := Tryz.zeroValue9
  t28 := Tryz.underlying113
  a28 := Tryz.isAgg113
  z28 := Tryz.sizeOf113
  v28 := Tryz.zeroValue113
  i26 := by kernel_rfl }

def Tryz.sort71_ren : Go.Shelf.Ren := ⟨fun | 6 => 71 | 8 => 84 | 9 => 83 | 19 => 95 | 20 => 96 | 21 => 86 | 22 => 87 | 23 => 88 | 24 => 89 | 25 => 90 | 26 => 91 | 27 => 92 | 28 => 93 | 29 => 94 | 36 => 98 | 31 => 99 | 32 => 100 | 37 => 101 | 38 => 102 | 39 => 103 | 41 => 104 | n => n, fun | 27 => 23 | 29 => 9 | 3 => 3 | 32 => 151 | 26 => 23 | 0 => 0 | 44 => 81 | 46 => 177 | 4 => 4 | 36 => 168 | 35 => 167 | 41 => 173 | 5 => 5 | 9 => 9 | 53 => 178 | 57 => 182 | 63 => 184 | 64 => 185 | n => n, fun | n => n⟩

theorem Tryz.sort71 : Go.Proofs.SlLaysM.n6 Tryz.prog Tryz.sort71_ren := {
  mixed := by kernel_rfl
  f6 := ⟨Tryz.f71.name, by decide, Tryz.func71.trans (congrArg some (by kernel_rfl))⟩
  f8 := Tryz.func84.trans (congrArg some (by kernel_rfl))
  f9 := ⟨Tryz.f83.name, by decide, Tryz.func83.trans (congrArg some (by kernel_rfl))⟩
  f19 := Tryz.func95.trans (congrArg some (by kernel_rfl))
  f20 := Tryz.func96.trans (congrArg some (by kernel_rfl))
  f21 := ⟨Tryz.f86.name, by decide, Tryz.func86.trans (congrArg some (by kernel_rfl))⟩
  f22 := ⟨Tryz.f87.name, by decide, Tryz.func87.trans (congrArg some (by kernel_rfl))⟩
  f23 := ⟨Tryz.f88.name, by decide, Tryz.func88.trans (congrArg some (by kernel_rfl))⟩
  f24 := ⟨Tryz.f89.name, by decide, Tryz.func89.trans (congrArg some (by kernel_rfl))⟩
  f25 := ⟨Tryz.f90.name, by decide, Tryz.func90.trans (congrArg some (by kernel_rfl))⟩
  f26 := ⟨Tryz.f91.name, by decide, Tryz.func91.trans (congrArg some (by kernel_rfl))⟩
  f27 := ⟨Tryz.f92.name, by decide, Tryz.func92.trans (congrArg some (by kernel_rfl))⟩
  f28 := ⟨Tryz.f93.name, by decide, Tryz.func93.trans (congrArg some (by kernel_rfl))⟩
  f29 := ⟨Tryz.f94.name, by decide, Tryz.func94.trans (congrArg some (by kernel_rfl))⟩
  f31 := Tryz.func99.trans (congrArg some (by kernel_rfl))
  f32 := Tryz.func100.trans (congrArg some (by kernel_rfl))
  f36 := ⟨Tryz.f98.name, by decide, Tryz.func98.trans (congrArg some (by kernel_rfl))⟩
  f37 := ⟨Tryz.f101.name, by decide, Tryz.func101.trans (congrArg some (by kernel_rfl))⟩
  f38 := ⟨Tryz.f102.name, by decide, Tryz.func102.trans (congrArg some (by kernel_rfl))⟩
  f39 := ⟨Tryz.f103.name, by decide, Tryz.func103.trans (congrArg some (by kernel_rfl))⟩
  f41 := ⟨Tryz.f104.name, by decide, Tryz.func104.trans (congrArg some (by kernel_rfl))⟩
  t0 := Tryz.underlying0
  a0 := Tryz.isAgg0
  z0 := Tryz.sizeOf0
  v0 := Tryz.zeroValue0
  t3 := Tryz.underlying3
  a3 := Tryz.isAgg3
  z3 := Tryz.sizeOf3
  v3 := Tryz.zeroValue3
  t4 := Tryz.underlying4
  a4 := Tryz.isAgg4
  z4 := Tryz.sizeOf4
  v4 := Tryz.zeroValue4
  t5 := Tryz.underlying5
  a5 := Tryz.isAgg5
  z5 := Tryz.sizeOf5
  v5 := Tryz.zeroValue5
  t9 := Tryz.underlying9
  a9 := Tryz.isAgg9
  z9 := Tryz.sizeOf9
  v9 := Tryz.zeroValue9
  t26 := Tryz.underlying23
  a26 := Tryz.isAgg23
  z26 := Tryz.sizeOf23
  v26 := Tryz.zeroValue23
  t27 := Tryz.underlying23
  a27 := Tryz.isAgg23
  z27 := Tryz.sizeOf23
  v27 := Tryz.zeroValue23
  t29 := Tryz.underlying9
  a29 := Tryz.isAgg9
  z29 := Tryz.sizeOf9
  v29 := Tryz.zeroValue9
  t32 := Tryz.underlying151
  a32 := Tryz.isAgg151
  z32 := Tryz.sizeOf151
  v32 := Tryz.zeroValue151
  t35 := Tryz.underlying167
  a35 := Tryz.isAgg167
  z35 := Tryz.sizeOf167
  v35 := Tryz.zeroValue167
  t36 := Tryz.underlying168
  a36 := Tryz.isAgg168
  z36 := Tryz.sizeOf168
  v36 := Tryz.zeroValue168
  t41 := Tryz.underlying173
  a41 := Tryz.isAgg173
  z41 := Tryz.sizeOf173
  v41 := Tryz.zeroValue173
  t44 := Tryz.underlying81
  a44 := Tryz.isAgg81
  z44 := Tryz.sizeOf81
  v44 := Tryz.zeroValue81
  t46 := Tryz.underlying177
  a46 := Tryz.isAgg177
  z46 := Tryz.sizeOf177
  v46 := Tryz.zeroValue177
  t53 := Tryz.underlying178
  a53 := Tryz.isAgg178
  z53 := Tryz.sizeOf178
  v53 := Tryz.zeroValue178
  t57 := Tryz.underlying182
  a57 := Tryz.isAgg182
  z57 := Tryz.sizeOf182
  v57 := Tryz.zeroValue182
  t63 := Tryz.underlying184
  a63 := Tryz.isAgg184
  z63 := Tryz.sizeOf184
  v63 := Tryz.zeroValue184
  t64 := Tryz.underlying185
  a64 := Tryz.isAgg185
  z64 := Tryz.sizeOf185
  v64 := Tryz.zeroValue185 }

end Go.Proofs

/- slices.Sorted(maps.Keys(m)) at this program. -/

namespace Go.Proofs

open Go.RowKit Go.Maps Go.Sort Go.Shelf

theorem Tryz.sorts50 (m : Nat) : AnyZ.SortsIn Tryz.prog Tryz.sorted50_ren Fence.wide m :=
  ⟨fun blk off cap ss W hH hblk hsz => callsIn_wide.2 (AnyM.slices_Sort_string Tryz.sort71 blk off cap ss W hH hblk hsz),
   fun p cap W => callsIn_wide.2 (AnyM.slices_Sort_string_none Tryz.sort71 p cap W)⟩

theorem Tryz.maps_Keys_51 (mb : Option Nat) (W : World) : CallsIn Fence.wide 5 Tryz.prog 51 #[.map mb] W fun e w' => e = .returned (.func (.func 72) #[] #[.pointer (some ⟨W.heap.size, 0, none⟩)]) ∧ w' = W.alloc (.cells #[.map mb] 74) :=
  AnyZ.keys_in Tryz.keys51 Fence.wide 5 trivial rfl mb W

set_option maxHeartbeats 1000000 in
theorem Tryz.slices_Sorted_keys_50_51 {H : Type} (b nn : Nat) (D0 : DataW H) (R : Value → Option (DataW H × List MemPlace)) (w : World) (hown : w.ownsMap Tryz.prog 9 R b nn D0) (hmax : Maps.size D0 ≤ maxLen) (hbytes : Maps.size D0 * 16 ≤ 140737488355328) :
    CallsIn Fence.wide 5 Tryz.prog 50 #[.func (.func 72) #[] #[.pointer (some ⟨w.heap.size, 0, none⟩)]] (w.alloc (.cells #[.map (some b)] 74)) fun e w' => ∃ (v : Value) (ss : List (List UInt8)), e = .returned v ∧ ss.Perm (strKeys D0) ∧
      w'.ownsRow (w.alloc (.cells #[.map (some b)] 74)).heap.size 9 1 v ss.length ((ss.mergeSort (fun x y => decide (x ≤ y))).map encStr) ∧ (v = .slice none 0 0 ↔ ss = []) ∧ Below (w.alloc (.cells #[.map (some b)] 74)).heap.size (w.alloc (.cells #[.map (some b)] 74)) w' := by
  have hbl := hown.lt
  have hseq : SeqGives Fence.wide 2 Tryz.prog 72 #[.pointer (some ⟨w.heap.size, 0, none⟩)] encStr (fun ss => ss.Perm (strKeys D0)) (Maps.size D0) (w.alloc (.cells #[.map (some b)] 74)) :=
    AnyZ.keys_gives (ρ := Tryz.keys51_ren) { Tryz.keys51 with } Fence.wide _ trivial rfl (by omega) w.heap.size b nn D0 _ (by simp) (by simp) (by
      obtain ⟨es, clock, hb, Ft, hs, hD⟩ := hown
      exact ⟨es, clock, (Below.heap_alloc _ _ b hbl).trans hb, Ft, hs, hD⟩)
  exact AnyZ.sorted_in Tryz.sorted50 Fence.wide 5 trivial trivial trivial trivial rfl (by omega) (Tryz.sorts50 _) (enters_of Tryz.func71 (by kernel_rfl) rfl) 72 #[.pointer (some ⟨w.heap.size, 0, none⟩)] trivial (enters_of Tryz.func72 (by kernel_rfl) rfl) _ _ hmax hbytes _ hseq

set_option maxHeartbeats 1000000 in
theorem Tryz.slices_Sorted_keys_nil_50_51 (w : World) :
    CallsIn Fence.wide 5 Tryz.prog 50 #[.func (.func 72) #[] #[.pointer (some ⟨w.heap.size, 0, none⟩)]] (w.alloc (.cells #[.map none] 74)) fun e w' => ∃ (v : Value) (ss : List (List UInt8)), e = .returned v ∧ ss = [] ∧
      w'.ownsRow (w.alloc (.cells #[.map none] 74)).heap.size 9 1 v ss.length ((ss.mergeSort (fun x y => decide (x ≤ y))).map encStr) ∧ (v = .slice none 0 0 ↔ ss = []) ∧ Below (w.alloc (.cells #[.map none] 74)).heap.size (w.alloc (.cells #[.map none] 74)) w' := by
  have hseq : SeqGives Fence.wide 2 Tryz.prog 72 #[.pointer (some ⟨w.heap.size, 0, none⟩)] encStr (fun ss : List (List UInt8) => ss = []) 0 (w.alloc (.cells #[.map none] 74)) :=
    AnyZ.keys_gives_nil (ρ := Tryz.keys51_ren) { Tryz.keys51 with } Fence.wide _ trivial rfl w.heap.size _ (by simp) (by simp)
  exact AnyZ.sorted_in Tryz.sorted50 Fence.wide 5 trivial trivial trivial trivial rfl (by omega) (Tryz.sorts50 _) (enters_of Tryz.func71 (by kernel_rfl) rfl) 72 #[.pointer (some ⟨w.heap.size, 0, none⟩)] trivial (enters_of Tryz.func72 (by kernel_rfl) rfl) _ 0 (Nat.zero_le _) (by omega) _ hseq

end Go.Proofs

/- A map's keys, sorted (out of SC). -/

namespace Go.Proofs.YtkpaiaddikpdoaaGreatDoor

open Go.RowKit Go.Maps Go.Sort Go.Shelf

/-- The map as the shelf's contracts read it. -/
theorem MapAt.owns {w : World} {b : Nat} {l : List (ByteArray × Value)} (h : MapAt Value.string w b l) (hk : ∀ p ∈ l, p.1.size ≤ maxLen) (hl : l.length ≤ maxLen) :
    ∃ D : DataW Unit, w.ownsMap Tryz.prog 9 (fun _ => some (.nil, [])) b l.length D ∧ (strKeys D).Perm (l.map (fun p => p.1.data.toList)) ∧ Maps.size D = l.length := by
  obtain ⟨es, clock, hb, hs, he⟩ := h
  have hsz : es.size = l.length := by
    have := congrArg List.length he
    simpa using this
  have hrd : ∀ x ∈ es.toList, ∃ s : ByteArray, x.key = .string s ∧ s.size ≤ maxLen ∧ WideElems.rd (H := Unit) Tryz.prog 9 (fun _ => some (.nil, [])) x = some (.string s.data.toList, .nil) := by
    intro x hx
    have : (x.key, x.val) ∈ l.map (fun p => (Value.string p.1, p.2)) := by rw [← he]; exact List.mem_map.2 ⟨x, hx, rfl⟩
    obtain ⟨p, hp, hpe⟩ := List.mem_map.1 this
    have hkey : x.key = .string p.1 := (Prod.mk.inj hpe).1.symm
    refine ⟨p.1, hkey, hk p hp, ?_⟩
    simp [WideElems.rd, hkey, WideMaps.keyOf_string_mk Tryz.underlying9 (hk p hp)]
  refine ⟨_, ⟨es, clock, hb, ⟨by omega, hs, fun x hx => ?_⟩, by omega, rfl⟩, ?_, ?_⟩
  · obtain ⟨s, _, _, h⟩ := hrd x hx
    exact ⟨_, h⟩
  · simp only [strKeys]
    have hp := (WideShapes.sorted_perm (es.toList.map (WideElems.rg (H := Unit) Tryz.prog 9 (fun _ => some (.nil, []))))).map (fun p => Go.strOf p.1)
    refine hp.trans ?_
    have e : (es.toList.map (WideElems.rg (H := Unit) Tryz.prog 9 (fun _ => some (.nil, [])))).map (fun p => Go.strOf p.1) = l.map (fun p => p.1.data.toList) := by
      rw [List.map_map]
      have e2 : l.map (fun p => p.1.data.toList) = (l.map (fun p => (Value.string p.1, p.2))).map (fun q => match q.1 with | .string s => s.data.toList | _ => []) := by
        rw [List.map_map]; rfl
      rw [e2, ← he, List.map_map]
      apply List.map_congr_left
      intro x hx
      obtain ⟨s, hkey, _, h⟩ := hrd x hx
      simp [WideElems.rg, h, hkey, Go.strOf]
    rw [e]
  · simp only [Maps.size]
    rw [(WideShapes.sorted_perm _).length_eq]
    simp [hsz]

theorem row_of_owns {w : World} {base : Nat} {e : TypeId} {size : Nat} {v : Value} {n : Nat} {xs : List Value} (h : w.ownsRow base e size v n xs) : Row w e size v n xs := by
  refine ⟨h.1, ?_⟩
  rcases h.2 with h2 | ⟨g, cap, cur, hv, _, hh, h3, h4, h5, h6⟩
  · exact .inl h2
  · exact .inr ⟨g, cap, cur, hv, hh, h3, h4, by omega, h6⟩

/-- The bytes' lists sorted, as keys. -/
def asKeys (ss : List (List UInt8)) : List ByteArray := (ss.mergeSort (fun x y => decide (x ≤ y))).map (fun l => ⟨l.toArray⟩)

theorem asKeys_rises {ss : List (List UInt8)} (hn : ss.Nodup) : Rises (asKeys ss) := by
  unfold Rises asKeys
  rw [List.pairwise_map]
  have h1 : (ss.mergeSort (fun x y => decide (x ≤ y))).Pairwise (fun x y => decide (x ≤ y) = true) := List.pairwise_mergeSort (fun a b c hab hbc => by simp at *; exact List.le_trans hab hbc) (fun a b => by simp; exact List.le_total a b) ss
  have h2 : (ss.mergeSort (fun x y => decide (x ≤ y))).Nodup := (List.mergeSort_perm ss _).nodup_iff.2 hn
  rw [List.nodup_iff_pairwise_ne] at h2
  refine (h1.and h2).imp ?_
  rintro a b ⟨hab, hne⟩
  rw [ltK_iff]
  have hab' : a ≤ b := by simpa using hab
  rcases List.le_iff_lt_or_eq.1 hab' with h | h
  · exact h
  · exact absurd h hne

theorem asKeys_perm {ss : List (List UInt8)} {ks : List ByteArray} (h : ss.Perm (ks.map (fun k => k.data.toList))) : (asKeys ss).Perm ks := by
  unfold asKeys
  have h1 : (ss.mergeSort (fun x y => decide (x ≤ y))).Perm (ks.map (fun k => k.data.toList)) := (List.mergeSort_perm ss _).trans h
  have h2 := h1.map (fun l : List UInt8 => (⟨l.toArray⟩ : ByteArray))
  have e : (ks.map (fun k => k.data.toList)).map (fun l : List UInt8 => (⟨l.toArray⟩ : ByteArray)) = ks := by
    rw [List.map_map]
    conv => rhs; rw [← List.map_id ks]
    apply List.map_congr_left
    intro k _
    simp
  rw [e] at h2
  exact h2

theorem nodup_map_inj {α β : Type} {f : α → β} (hf : ∀ a b, f a = f b → a = b) : ∀ {l : List α}, l.Nodup → (l.map f).Nodup
  | [], _ => by simp
  | x :: r, h => by
    simp only [List.nodup_cons, List.map_cons] at h ⊢
    refine ⟨fun hx => ?_, nodup_map_inj hf h.2⟩
    obtain ⟨y, hy, e⟩ := List.mem_map.1 hx
    exact h.1 (hf _ _ e ▸ hy)

end Go.Proofs.YtkpaiaddikpdoaaGreatDoor
