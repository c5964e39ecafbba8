/- What a work sees, whatever is committed and swept meanwhile. -/
import Derived.Test.YthgojidgaeimnaaV7
import Derived.Test.YthgojidgaeimnaaT7
namespace Go.Proofs.Ythgojidgaeimnaa
open Go.RowKit Go.Shelf

theorem pairOf_nil (vers : ByteArray → List Ver) (bg : Int) (k : ByteArray) : pairOf [] vers bg k = if standsB (atVer (vers k) bg) = true then some (k, ((atVer (vers k) bg).getD Ver.zero).value) else none := rfl

theorem scan_next {A : Abs} (h : Sound A) {bg : Int} (hb : bg ≤ A.now) (key val : ByteArray) (gone : Bool) : (A.next key val gone).scan bg [] = A.scan bg [] := by
  unfold Abs.scan
  congr 1
  funext k
  have e : atVer ((A.next key val gone).vers k) bg = atVer (A.vers k) bg := by
    simp only [Abs.next]
    split
    · exact at_more (h.rising k) (by simp; omega)
    · rfl
  rw [pairOf_nil, pairOf_nil, e]

theorem scan_swept {A : Abs} (h : Sound A) {bg L : Int} (hb : L ≤ bg) : (A.swept L).scan bg [] = A.scan bg [] := by
  unfold Abs.scan
  congr 1
  funext k
  obtain ⟨e1, e2⟩ := at_swept (L := L) (t := bg) (h.rising k) hb
  have e0 : (A.swept L).vers k = (A.vers k).drop (needN (A.vers k) L) := rfl
  rw [pairOf_nil, pairOf_nil, e0, e1]
  cases hs : standsB (atVer (A.vers k) bg) with
  | false => simp
  | true => rw [e2 hs]

theorem filterMap_but {f : ByteArray → Option (ByteArray × ByteArray)} (hf : ∀ k p, f k = some p → p.1 = k) (key : ByteArray) : ∀ ks : List ByteArray, ks.filterMap (fun k => if k = key then none else f k) = (ks.filterMap f).filter (fun p => decide (p.1 ≠ key))
  | [] => rfl
  | k :: ks => by
    have ih := filterMap_but hf key ks
    by_cases e : k = key
    · cases h : f k with
      | none => simp only [List.filterMap_cons, e, if_true, ih]; rw [← e, h]
      | some p =>
        have hp := hf k p h
        have hd : decide (p.1 ≠ key) = false := by simp [hp, e]
        simp only [List.filterMap_cons, if_pos e, h, ih, List.filter_cons, hd]
        simp
    · cases h : f k with
      | none => simp only [List.filterMap_cons, if_neg e, h, ih]
      | some p =>
        have hp := hf k p h
        have hd : decide (p.1 ≠ key) = true := by simp [hp, e]
        simp only [List.filterMap_cons, if_neg e, h, ih, List.filter_cons, hd]
        simp

theorem scan_gone (A : Abs) (bg : Int) (key : ByteArray) : A.scan bg [(key, ⟨0, ByteArray.empty, true⟩)] = (A.scan bg []).filter (fun p => decide (p.1 ≠ key)) := by
  unfold Abs.scan
  rw [← filterMap_but (fun k p h => ?_) key]
  · congr 1
    funext k
    by_cases e : k = key
    · subst e
      simp [pairOf, seeVer, look, standsB]
    · have e' : ¬ key = k := fun h => e h.symm
      rw [if_neg e]
      simp [pairOf, seeVer, look, e']
      rfl
  · rw [pairOf_nil] at h
    split at h
    · simp only [Option.some.injEq] at h
      rw [← h]
    · cases h

/-- one open work -/
structure SteadyAt (w0 : World) (b : Nat) (wn bg : Int) (ps : List (ByteArray × ByteArray)) (vl : Value) (k : Nat) (A : Abs) (wr : World) : Prop where
  st : SAt K12 (fun j => j < w0.heap.size ∨ vl.ownBlock = some j) wr b A
  works : A.works = [(wn, (bg, []))]
  scan : A.scan bg [] = ps
  now : bg ≤ A.now ∧ A.now ≤ 100000 + k
  begun : 1 ≤ A.begun ∧ A.begun ≤ 100001 + k
  row : Row wr 52 2 vl ps.length (ps.flatMap pairCells)
  own : ∀ g, vl.ownBlock = some g → w0.heap.size ≤ g
  keep : Keeps (fun _ => False) w0 wr

theorem SteadyAt.room {w0 : World} {b : Nat} {wn bg : Int} {ps : List (ByteArray × ByteArray)} {vl : Value} {k : Nat} {A : Abs} {wr : World} (h : SteadyAt w0 b wn bg ps vl k A wr) : ∀ j, (j < w0.heap.size ∨ vl.ownBlock = some j) → j < wr.heap.size := by
  rintro j (hj | hj)
  · exact Nat.lt_of_lt_of_le hj h.keep.size
  · exact h.row.lt hj

theorem SteadyAt.kept {w0 : World} {b : Nat} {wn bg : Int} {ps : List (ByteArray × ByteArray)} {vl : Value} {k : Nat} {A A' : Abs} {wr w' : World} (h : SteadyAt w0 b wn bg ps vl k A wr) {k' : Nat} (s : SAt K12 (fun j => j < w0.heap.size ∨ vl.ownBlock = some j) w' b A') (hk : Keeps (fun j => ¬ (j < w0.heap.size ∨ vl.ownBlock = some j)) wr w')
    (h1 : A'.works = A.works) (h2 : A'.scan bg [] = A.scan bg []) (h3 : bg ≤ A'.now ∧ A'.now ≤ 100000 + k') (h4 : 1 ≤ A'.begun ∧ A'.begun ≤ 100001 + k') : SteadyAt w0 b wn bg ps vl k' A' w' :=
  ⟨s, h1.trans h.works, h2.trans h.scan, h3, h4, h.row.kept hk (fun _ hg hn => hn (.inr hg)), h.own, h.keep.trans hk (fun _ hj hn => hn (.inl hj))⟩

theorem SteadyAt.wrote {w0 : World} {b : Nat} {wn bg : Int} {ps : List (ByteArray × ByteArray)} {vl : Value} {k : Nat} {A : Abs} {wr w' : World} {what key : Int} {val : ByteArray} {e : Ending} (h : SteadyAt w0 b wn bg ps vl k A wr) (hw : WritePost (fun j => j < w0.heap.size ∨ vl.ownBlock = some j) b A what key val wr e w') :
    e = .returned (.bool true) ∧ ∃ A', SteadyAt w0 b wn bg ps vl (k + 1) A' w' := by
  obtain ⟨rfl, s, hk⟩ := hw
  have hn := h.now
  have hb := h.begun
  refine ⟨rfl, _, h.kept s hk rfl (scan_next h.st.sound hn.1 _ _ _) ⟨?_, ?_⟩ ⟨?_, ?_⟩⟩
  · show bg ≤ A.now + 1
    omega
  · show A.now + 1 ≤ _
    omega
  · show 1 ≤ A.begun + 1
    omega
  · show A.begun + 1 ≤ _
    omega

theorem SteadyAt.swept {w0 : World} {b : Nat} {wn bg : Int} {ps : List (ByteArray × ByteArray)} {vl : Value} {k : Nat} {A : Abs} {wr w' : World} {L : Int} (h : SteadyAt w0 b wn bg ps vl k A wr) (hL : IsLeast A.now (A.works.map (·.2.1)) L) (s : SAt K12 (fun j => j < w0.heap.size ∨ vl.ownBlock = some j) w' b (A.swept L)) (hk : Keeps (fun j => ¬ (j < w0.heap.size ∨ vl.ownBlock = some j)) wr w') :
    SteadyAt w0 b wn bg ps vl k (A.swept L) w' := by
  have hle : L ≤ bg := hL.2.1 bg (by rw [h.works]; simp)
  exact h.kept s hk rfl (scan_swept h.st.sound hle) h.now h.begun

end Go.Proofs.Ythgojidgaeimnaa
