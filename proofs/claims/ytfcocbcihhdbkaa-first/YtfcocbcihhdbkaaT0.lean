/- A store, told by what can be asked of it: its calls, as they look from outside. -/
import Derived.Test.YtfcocbcihhdbkaaSY
namespace Go.Proofs.Ytfcocbcihhdbkaa
open Go.RowKit Go.Shelf

/-- what can be asked of a store -/
structure Abs where
  now : Int
  floor : Int
  begun : Int
  works : List (Int × (Int × List (ByteArray × Ver)))
  vers : ByteArray → List Ver

def Rep.abs (R : Rep) : Abs := ⟨R.now, R.floor, R.begun, R.works.map (fun p => (p.1, (p.2.began, p.2.writes))), versOf R.hist⟩

def Abs.zero : Abs := ⟨0, 0, 0, [], fun _ => []⟩
def Abs.opened (A : Abs) : Abs := { A with begun := A.begun + 1, works := A.works ++ [(A.begun + 1, (A.now, []))] }
def Abs.ended (A : Abs) (n : Int) : Abs := { A with works := del A.works n }
def Abs.wrote (A : Abs) (n bg : Int) (ws : List (ByteArray × Ver)) (key : ByteArray) (v : Ver) : Abs := { A with works := put A.works n (bg, put ws key v) }
def Abs.became (A : Abs) (n : Int) (ws : List (ByteArray × Ver)) : Abs :=
  { A with now := A.now + 1, works := del A.works n, vers := fun k => if (look ws k).isSome then A.vers k ++ [verOf ws (A.now + 1) k] else A.vers k }

/-- A store without pins that is as it should be, with keys of K alone. -/
structure Inv (K : List ByteArray) (w : World) (R : Rep) : Prop where
  st : StoreAt w R
  good : Good R
  tied : Tied R
  pm : R.pm = none ∧ R.cm = none
  wm : 1 ≤ R.begun → ∃ b0, R.wm = some b0
  kin : ∀ k ∈ R.keys, k ∈ K
  win : ∀ p ∈ R.works, ∀ q ∈ p.2.writes, q.1 ∈ K

/-- The store at b is A, and has nothing of O. -/
def SAt (K : List ByteArray) (O : Nat → Prop) (w : World) (b : Nat) (A : Abs) : Prop := ∃ R, Inv K w R ∧ R.sb = b ∧ R.abs = A ∧ ∀ k ∈ R.fp, ¬ O k

theorem Inv.kept {K : List ByteArray} {w w' : World} {R : Rep} {S : Nat → Prop} (h : Inv K w R) (hk : Keeps S w w') (hS : ∀ k ∈ R.fp, ¬ S k) : Inv K w' R :=
  ⟨h.st.kept hk hS, h.good, h.tied, h.pm, h.wm, h.kin, h.win⟩

theorem SAt.kept {K : List ByteArray} {O S : Nat → Prop} {w w' : World} {b : Nat} {A : Abs} (h : SAt K O w b A) (hk : Keeps S w w') (hS : ∀ k, k < w.heap.size → S k → O k) : SAt K O w' b A := by
  obtain ⟨R, h1, h2, h3, h4⟩ := h
  exact ⟨R, h1.kept hk (fun k hk' hs => h4 k hk' (hS k (fp_lt h1.st k hk') hs)), h2, h3, h4⟩

theorem SAt.more {K : List ByteArray} {O O' : Nat → Prop} {w : World} {b : Nat} {A : Abs} (h : SAt K O w b A) (hO : ∀ k, O' k → O k ∨ w.heap.size ≤ k) : SAt K O' w b A := by
  obtain ⟨R, h1, h2, h3, h4⟩ := h
  refine ⟨R, h1, h2, h3, fun k hk ho => ?_⟩
  rcases hO k ho with h | h
  · exact h4 k hk h
  · have := fp_lt h1.st k hk
    omega

theorem SAt.lt {K : List ByteArray} {O : Nat → Prop} {w : World} {b : Nat} {A : Abs} (h : SAt K O w b A) : b < w.heap.size ∧ ¬ O b := by
  obtain ⟨R, h1, rfl, h3, h4⟩ := h
  exact ⟨h1.st.lt, h4 _ (by simp [Rep.fp])⟩

theorem works_nodup {w : World} {R : Rep} (h : StoreAt w R) : (R.works.map (·.1)).Nodup := by
  have := h.works.worksMap.nodup
  simpa [List.map_map, Function.comp_def] using this

theorem writes_nodup {w : World} {R : Rep} (h : StoreAt w R) {n : Int} {x : WkR} (hx : (n, x) ∈ R.works) : (x.writes.map (·.1)).Nodup := by
  have := (h.works.worksEach _ hx).2.nodup
  simpa [List.map_map, Function.comp_def] using this

theorem abs_look {R : Rep} {n bg : Int} {ws : List (ByteArray × Ver)} (h : look R.abs.works n = some (bg, ws)) : ∃ x, look R.works n = some x ∧ x.began = bg ∧ x.writes = ws := by
  have e : R.abs.works = R.works.map (fun p => (p.1, (fun y : WkR => (y.began, y.writes)) p.2)) := rfl
  rw [e, look_map (fun y : WkR => (y.began, y.writes))] at h
  cases hl : look R.works n with
  | none => rw [hl] at h; cases h
  | some x =>
    rw [hl] at h
    simp only [Option.map_some, Option.some.injEq, Prod.mk.injEq] at h
    exact ⟨x, rfl, h.1, h.2⟩

theorem length_le_of_subset {α : Type} [DecidableEq α] : ∀ {l K : List α}, l.Nodup → (∀ k ∈ l, k ∈ K) → l.length ≤ K.length
  | [], K, _, _ => by simp
  | a :: l, K, hn, hs => by
    have ha : a ∈ K := hs a (by simp)
    have h1 := length_le_of_subset (l := l) (K := K.erase a) (List.nodup_cons.1 hn).2 (fun k hk => by
      have hne : k ≠ a := fun e => (List.nodup_cons.1 hn).1 (e ▸ hk)
      exact (List.mem_erase_of_ne hne).2 (hs k (by simp [hk])))
    have h2 := List.length_erase_of_mem ha
    have h3 := List.length_pos_of_mem ha
    simp only [List.length_cons]
    omega

theorem Inv.keysLen {K : List ByteArray} {w : World} {R : Rep} (h : Inv K w R) : R.keys.length ≤ K.length := length_le_of_subset (rises_nodup h.tied.rises) h.kin

theorem Inv.writesLen {K : List ByteArray} {w : World} {R : Rep} (h : Inv K w R) {n : Int} {x : WkR} (hx : (n, x) ∈ R.works) : x.writes.length ≤ K.length := by
  have := length_le_of_subset (l := x.writes.map (·.1)) (K := K) (writes_nodup h.st hx) (fun k hk => by
    obtain ⟨q, hq, rfl⟩ := List.mem_map.1 hk
    exact h.win _ hx q hq)
  simpa using this

/-- A key that isn't there yet finds room. -/
theorem Inv.fits {K : List ByteArray} {w : World} {R : Rep} (h : Inv K w R) (hK : K.length ≤ 30) {n : Int} {x : WkR} (hx : (n, x) ∈ R.works) {key : ByteArray} (hkey : key ∈ K) : (look x.writes key).isSome = true ∨ x.writes.length < 30 := by
  cases hl : look x.writes key with
  | some v => exact .inl rfl
  | none =>
    right
    have hnot : key ∉ x.writes.map (·.1) := fun hm => by
      obtain ⟨q, hq, e⟩ := List.mem_map.1 hm
      exact look_none.1 hl q hq e
    have := length_le_of_subset (l := key :: x.writes.map (·.1)) (K := K) (List.nodup_cons.2 ⟨hnot, writes_nodup h.st hx⟩) (fun k hk => by
      rcases List.mem_cons.1 hk with rfl | hk
      · exact hkey
      · obtain ⟨q, hq, rfl⟩ := List.mem_map.1 hk
        exact h.win _ hx q hq)
    simp at this
    omega

theorem good_zero (b : Nat) : Good (Rep.zero b) :=
  ⟨⟨by simp [Rep.zero], by simp [Rep.zero]⟩, ⟨by simp [Rep.zero], by simp [Rep.zero]⟩, by simp [Rep.zero], fun p hp => (by cases hp), fun p hp => (by cases hp), fun p hp => (by cases hp), fun p hp => (by cases hp), fun p hp => (by cases hp), fun p hp => (by cases hp), fun p hp => (by cases hp), fun p hp => (by cases hp), fun p hp => (by cases hp), List.Pairwise.nil, fun k => ⟨fun hk => (by cases hk), fun ⟨x, hx⟩ => (by cases hx)⟩⟩

theorem new_s (K : List ByteArray) (O : Nat → Prop) (w : World) (hO : ∀ k, O k → k < w.heap.size) :
    Calls Try.prog 20 #[] w fun e w' => e = .returned (.pointer (some ⟨w.heap.size, 0, none⟩)) ∧ SAt K O w' w.heap.size Abs.zero ∧ Keeps (fun _ => False) w w' := by
  refine (new_any w).mono ?_
  rintro e w' ⟨rfl, h, hk⟩
  refine ⟨rfl, ⟨Rep.zero w.heap.size, ⟨h, good_zero _, tied_zero _, ⟨rfl, rfl⟩, fun h => absurd h (by simp [Rep.zero]), fun k hk => (by cases hk), fun p hp => (by cases hp)⟩, rfl, rfl, fun k hk ho => ?_⟩, hk⟩
  have e : k = w.heap.size := by simpa [Rep.fp, Rep.fpWorks, Rep.fpPast, Rep.zero, pcOf, Value.ownBlock] using hk
  have := hO k ho
  omega

theorem keeps_off {R : Rep} {O : Nat → Prop} {w w' : World} (h : ∀ k ∈ R.fp, ¬ O k) (hk : Keeps (· ∈ R.fp) w w') : Keeps (fun k => ¬ O k) w w' := hk.mono (fun k _ hf => h k hf)

/-- Begin -/
theorem begin_s {K : List ByteArray} {O : Nat → Prop} {w : World} {b : Nat} {A : Abs} (h : SAt K O w b A) (hO : ∀ k, O k → k < w.heap.size) (hl : A.works.length < 8) (hb : A.begun < 1000000000000000) :
    Calls Try.prog 7 #[.pointer (some ⟨b, 0, none⟩)] w fun e w' => e = .returned (.tuple #[.int .i64 (A.begun + 1), .int .i64 0]) ∧ SAt K O w' b A.opened ∧ Keeps (fun k => ¬ O k) w w' := by
  obtain ⟨R, hi, rfl, rfl, hf⟩ := h
  have hl' : R.works.length < 8 := by simpa [Rep.abs] using hl
  have hb' : R.begun < 1000000000000000 := hb
  have hnone : look R.works (R.begun + 1) = none := look_none.2 (fun p hp e => by have := hi.good.numbers p hp; omega)
  have hcall : Calls Try.prog 7 #[.pointer (some ⟨R.sb, 0, none⟩)] w fun e w' => e = .returned (.tuple #[.int .i64 (R.begun + 1), .int .i64 0]) ∧ BeginPost R w w' := by
    cases hwm : R.wm with
    | none => exact begin_none R w hi.st hwm hi.good.begun.1 (by omega)
    | some b0 => exact begin_some R w hi.st b0 hwm hl' hi.good.begun.1 (by omega) hnone
  refine hcall.mono ?_
  rintro e w' ⟨rfl, bb, m, wm, h1, h2, h3, h4, h5⟩
  refine ⟨rfl, ⟨_, ⟨h1, hi.good.entered hl' hb' bb m wm, ⟨hi.tied.rises, hi.tied.keys, hi.tied.filled⟩, hi.pm, fun _ => wm_some h1 (n := R.begun + 1) (x := ⟨bb, m, R.now, []⟩) ?_, hi.kin, ?_⟩, rfl, ?_, ?_⟩, keeps_off hf h2⟩
  · exact look_of_mem (works_nodup h1) (List.mem_append_right _ (by simp))
  · intro p hp q hq
    rcases List.mem_append.1 hp with hp | hp
    · exact hi.win p hp q hq
    · have e : p = (R.begun + 1, ⟨bb, m, R.now, []⟩) := by simpa using hp
      subst e
      cases hq
  · simp [Rep.abs, Abs.opened]
  · intro k hk
    have hk' : k = R.sb ∨ k ∈ wm.toList ∨ k ∈ R.fp ∨ k = bb ∨ k = m := by
      simp only [Rep.fp, Rep.fpWorks, Rep.fpPast, List.mem_cons, List.mem_append, List.flatMap_append, List.flatMap_cons, List.flatMap_nil, List.append_nil, List.not_mem_nil, or_false] at hk ⊢
      rcases hk with h | ((h | h) | h | h) | h
      · exact .inl h
      · exact .inr (.inl h)
      · exact .inr (.inr (.inl (.inr (.inl (.inl (.inr h))))))
      · exact .inr (.inr (.inl (.inr (.inl (.inr h)))))
      · exact .inr (.inr (.inr h))
      · exact .inr (.inr (.inl (.inr (.inr h))))
    intro ho
    have hk2 := hO k ho
    rcases hk' with rfl | h | h | rfl | rfl
    · exact hf _ (by simp [Rep.fp]) ho
    · rcases h3 with rfl | ⟨q, rfl, hq⟩
      · exact hf k (by simp only [Rep.fp, Rep.fpWorks, List.mem_cons, List.mem_append]; exact .inr (.inl (.inl (.inl h)))) ho
      · have : k = q := by simp at h; omega
        omega
    · exact hf k h ho
    · omega
    · omega

end Go.Proofs.Ytfcocbcihhdbkaa
