/- Scan of a store, from outside. -/
import Derived.Test.YthgojidgaeimnaaU6
namespace Go.Proofs.Ythgojidgaeimnaa
open Go.RowKit Go.Shelf

/-- Two rising lists with the same members are one. -/
theorem rises_ext : ∀ {xs ys : List ByteArray}, Rises xs → Rises ys → (∀ k, k ∈ xs ↔ k ∈ ys) → xs = ys
  | [], [], _, _, _ => rfl
  | [], y :: ys, _, _, h => by have := (h y).2 (by simp); cases this
  | x :: xs, [], _, _, h => by have := (h x).1 (by simp); cases this
  | x :: xs, y :: ys, hx, hy, h => by
    obtain ⟨hx1, hx2⟩ := rises_cons hx
    obtain ⟨hy1, hy2⟩ := rises_cons hy
    have e : x = y := by
      rcases List.mem_cons.1 ((h x).1 (by simp)) with e | h1
      · exact e
      · rcases List.mem_cons.1 ((h y).2 (by simp)) with e | h2
        · exact e.symm
        · have := ltK_trans (hy1 x h1) (hx1 y h2)
          rw [ltK_irrefl] at this
          cases this
    subst e
    have hnx : ∀ l : List ByteArray, (∀ z ∈ l, ltK x z = true) → x ∉ l := fun l hl hm => by
      have := hl x hm
      rw [ltK_irrefl] at this
      cases this
    congr 1
    refine rises_ext hx2 hy2 (fun k => ⟨fun hk => ?_, fun hk => ?_⟩)
    · rcases List.mem_cons.1 ((h k).1 (List.mem_cons_of_mem _ hk)) with e | h1
      · exact absurd (e ▸ hk) (hnx xs hx1)
      · exact h1
    · rcases List.mem_cons.1 ((h k).2 (List.mem_cons_of_mem _ hk)) with e | h1
      · exact absurd (e ▸ hk) (hnx ys hy1)
      · exact h1

theorem filterMap_some {β : Type} (f : ByteArray → Option β) : ∀ xs : List ByteArray, (xs.filter (fun k => (f k).isSome)).filterMap f = xs.filterMap f
  | [] => rfl
  | x :: xs => by
    cases h : f x with
    | none => simp [h, filterMap_some f xs]
    | some y => simp [h, filterMap_some f xs]

theorem filterMap_rises {β : Type} {f : ByteArray → Option β} {xs ys : List ByteArray} (hx : Rises xs) (hy : Rises ys) (h1 : ∀ k, (f k).isSome = true → k ∈ xs) (h2 : ∀ k, (f k).isSome = true → k ∈ ys) : xs.filterMap f = ys.filterMap f := by
  rw [← filterMap_some f xs, ← filterMap_some f ys]
  congr 1
  refine rises_ext (hx.sublist List.filter_sublist) (hy.sublist List.filter_sublist) (fun k => ?_)
  simp only [List.mem_filter]
  exact ⟨fun h => ⟨h2 k h.2, h.2⟩, fun h => ⟨h1 k h.2, h.2⟩⟩

/-- the twelve keys, in rising order -/
def K12s : List ByteArray := [keyZ 0, keyZ 3, keyZ 1, keyZ 4, keyZ 7, keyZ 10, keyZ 2, keyZ 5, keyZ 8, keyZ 11, keyZ 6, keyZ 9]

theorem K12s_rises : Rises K12s := by
  unfold Rises
  decide +kernel

theorem K12s_mem {k : ByteArray} (h : k ∈ K12) : k ∈ K12s := by
  obtain ⟨j, hj, rfl⟩ := key_of_mem h
  have hall : ∀ i : Fin 12, memB K12s (keyZ (i.val : Int)) = true := by decide +kernel
  exact (memB_iff _ _).1 (hall ⟨j, hj⟩)

/-- what a work sees -/
def Abs.scan (A : Abs) (bg : Int) (ws : List (ByteArray × Ver)) : List (ByteArray × ByteArray) := K12s.filterMap (pairOf ws A.vers bg)

/-- Scan -/
theorem scan_s {O : Nat → Prop} {w : World} {b : Nat} {A : Abs} {n bg : Int} {ws : List (ByteArray × Ver)} (h : SAt K12 O w b A) (hn : look A.works n = some (bg, ws)) :
    Calls Try.prog 16 #[.pointer (some ⟨b, 0, none⟩), .int .i64 n, .string ⟨#[]⟩, .int .i64 (-1)] w fun e w' => ∃ v, e = .returned (.tuple #[v, .int .i64 0]) ∧
      Row w' 52 2 v (A.scan bg ws).length ((A.scan bg ws).flatMap pairCells) ∧ (∀ g, v.ownBlock = some g → w.heap.size ≤ g) ∧ SAt K12 O w' b A ∧ Keeps (fun _ => False) w w' := by
  obtain ⟨R, hi, rfl, rfl, hf⟩ := h
  obtain ⟨x, hx, rfl, rfl⟩ := abs_look hn
  have hkl := hi.keysLen
  have h30 := K12_len
  refine (scan_any R n x w hi.st hi.good hi.tied hx (by omega)).mono ?_
  rintro e w' ⟨v, xs, kw, rfl, hp, hM, hrow, hown, hk⟩
  have hmem : ∀ k, k ∈ xs ↔ (k ∈ R.keys ∨ k ∈ x.writes.map (·.1)) := fun k => by
    have := hM.all k
    simp only [List.not_mem_nil, or_false] at this
    rw [this, hp.mem_iff]
  have hsome : ∀ k, (pairOf x.writes (versOf R.hist) x.began k).isSome = true → k ∈ xs := fun k hk => by
    rw [hmem]
    by_cases hw : k ∈ x.writes.map (·.1)
    · exact .inr hw
    · left
      refine keys_of_vers hi.tied (fun e => ?_)
      have hl : look x.writes k = none := look_none.2 (fun q hq e => hw (List.mem_map.2 ⟨q, hq, e⟩))
      unfold pairOf seeVer at hk
      rw [hl, e] at hk
      simp [atVer, upN, standsB] at hk
  have hin : ∀ k ∈ xs, k ∈ K12 := fun k hk => by
    rcases (hmem k).1 hk with h | h
    · exact hi.kin k h
    · obtain ⟨q, hq, rfl⟩ := List.mem_map.1 h
      exact hi.win _ (look_mem hx) q hq
  have e : xs.filterMap (pairOf x.writes (versOf R.hist) x.began) = R.abs.scan x.began x.writes := filterMap_rises hM.come K12s_rises hsome (fun k hk => K12s_mem (hin k (hsome k hk)))
  rw [e] at hrow
  exact ⟨v, rfl, hrow, hown, ⟨R, hi.kept hk (fun _ _ h => h), rfl, rfl, hf⟩, hk⟩

end Go.Proofs.Ythgojidgaeimnaa
