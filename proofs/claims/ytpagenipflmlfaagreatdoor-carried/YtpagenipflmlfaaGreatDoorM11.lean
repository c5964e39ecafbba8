import Derived.Test.YtpagenipflmlfaaGreatDoorM10
import Derived.RangeFuncWrites
import Derived.Stop.RegionWithIn

/- A store, told by what can be asked of it: its calls, as they look from outside. -/

namespace Go.Proofs.YtpagenipflmlfaaGreatDoor

open Go.RowKit Go.Shelf

/-- what can be asked of a store -/
structure Abs where
  now : Int
  floor : Int
  begun : Int
  works : List (Int × (Int × List (ByteArray × Ver)))
  vers : ByteArray → List Ver

def Rep.abs (R : Rep) : Abs := ⟨R.now, R.floor, R.begun, R.works.map (fun p => (p.1, (p.2.began, p.2.writes))), versOf R.hist⟩

def Abs.zero : Abs := ⟨0, 0, 0, [], fun _ => []⟩

def Abs.opened (A : Abs) : Abs := { A with begun := A.begun + 1, works := A.works ++ [(A.begun + 1, (A.now, []))] }

def Abs.ended (A : Abs) (n : Int) : Abs := { A with works := del A.works n }

def Abs.wrote (A : Abs) (n bg : Int) (ws : List (ByteArray × Ver)) (key : ByteArray) (v : Ver) : Abs := { A with works := put A.works n (bg, put ws key v) }

def Abs.became (A : Abs) (n : Int) (ws : List (ByteArray × Ver)) : Abs :=
  { A with now := A.now + 1, works := del A.works n, vers := fun k => if (look ws k).isSome then A.vers k ++ [verOf ws (A.now + 1) k] else A.vers k }

/-- A store without pins that is as it should be, with keys of K alone. -/
structure Inv (K : List ByteArray) (w : World) (R : Rep) : Prop where
  st : StoreAt w R
  good : Good R
  tied : Tied R
  pm : R.pm = none ∧ R.cm = none
  wm : 1 ≤ R.begun → ∃ b0, R.wm = some b0
  kin : ∀ k ∈ R.keys, k ∈ K
  win : ∀ p ∈ R.works, ∀ q ∈ p.2.writes, q.1 ∈ K

/-- The store at b is A, and has nothing of O. -/
def SAt (K : List ByteArray) (O : Nat → Prop) (w : World) (b : Nat) (A : Abs) : Prop := ∃ R, Inv K w R ∧ R.sb = b ∧ R.abs = A ∧ ∀ k ∈ R.fp, ¬ O k

theorem Inv.kept {K : List ByteArray} {w w' : World} {R : Rep} {S : Nat → Prop} (h : Inv K w R) (hk : Keeps S w w') (hS : ∀ k ∈ R.fp, ¬ S k) : Inv K w' R :=
  ⟨h.st.kept hk hS, h.good, h.tied, h.pm, h.wm, h.kin, h.win⟩

theorem SAt.kept {K : List ByteArray} {O S : Nat → Prop} {w w' : World} {b : Nat} {A : Abs} (h : SAt K O w b A) (hk : Keeps S w w') (hS : ∀ k, k < w.heap.size → S k → O k) : SAt K O w' b A := by
  obtain ⟨R, h1, h2, h3, h4⟩ := h
  exact ⟨R, h1.kept hk (fun k hk' hs => h4 k hk' (hS k (fp_lt h1.st k hk') hs)), h2, h3, h4⟩

theorem SAt.more {K : List ByteArray} {O O' : Nat → Prop} {w : World} {b : Nat} {A : Abs} (h : SAt K O w b A) (hO : ∀ k, O' k → O k ∨ w.heap.size ≤ k) : SAt K O' w b A := by
  obtain ⟨R, h1, h2, h3, h4⟩ := h
  refine ⟨R, h1, h2, h3, fun k hk ho => ?_⟩
  rcases hO k ho with h | h
  · exact h4 k hk h
  · have := fp_lt h1.st k hk
    omega

theorem SAt.lt {K : List ByteArray} {O : Nat → Prop} {w : World} {b : Nat} {A : Abs} (h : SAt K O w b A) : b < w.heap.size ∧ ¬ O b := by
  obtain ⟨R, h1, rfl, h3, h4⟩ := h
  exact ⟨h1.st.lt, h4 _ (by simp [Rep.fp])⟩

theorem works_nodup {w : World} {R : Rep} (h : StoreAt w R) : (R.works.map (·.1)).Nodup := by
  have := h.works.worksMap.nodup
  simpa [List.map_map, Function.comp_def] using this

theorem writes_nodup {w : World} {R : Rep} (h : StoreAt w R) {n : Int} {x : WkR} (hx : (n, x) ∈ R.works) : (x.writes.map (·.1)).Nodup := by
  have := (h.works.worksEach _ hx).2.nodup
  simpa [List.map_map, Function.comp_def] using this

theorem abs_look {R : Rep} {n bg : Int} {ws : List (ByteArray × Ver)} (h : look R.abs.works n = some (bg, ws)) : ∃ x, look R.works n = some x ∧ x.began = bg ∧ x.writes = ws := by
  have e : R.abs.works = R.works.map (fun p => (p.1, (fun y : WkR => (y.began, y.writes)) p.2)) := rfl
  rw [e, look_map (fun y : WkR => (y.began, y.writes))] at h
  cases hl : look R.works n with
  | none => rw [hl] at h; cases h
  | some x =>
    rw [hl] at h
    simp only [Option.map_some, Option.some.injEq, Prod.mk.injEq] at h
    exact ⟨x, rfl, h.1, h.2⟩

theorem length_le_of_subset {α : Type} [DecidableEq α] : ∀ {l K : List α}, l.Nodup → (∀ k ∈ l, k ∈ K) → l.length ≤ K.length
  | [], K, _, _ => by simp
  | a :: l, K, hn, hs => by
    have ha : a ∈ K := hs a (by simp)
    have h1 := length_le_of_subset (l := l) (K := K.erase a) (List.nodup_cons.1 hn).2 (fun k hk => by
      have hne : k ≠ a := fun e => (List.nodup_cons.1 hn).1 (e ▸ hk)
      exact (List.mem_erase_of_ne hne).2 (hs k (by simp [hk])))
    have h2 := List.length_erase_of_mem ha
    have h3 := List.length_pos_of_mem ha
    simp only [List.length_cons]
    omega

theorem Inv.keysLen {K : List ByteArray} {w : World} {R : Rep} (h : Inv K w R) : R.keys.length ≤ K.length := length_le_of_subset (rises_nodup h.tied.rises) h.kin

/-- A key that isn't there yet finds room. -/
theorem Inv.fits {K : List ByteArray} {w : World} {R : Rep} (h : Inv K w R) (hK : K.length ≤ 30) {n : Int} {x : WkR} (hx : (n, x) ∈ R.works) {key : ByteArray} (hkey : key ∈ K) : (look x.writes key).isSome = true ∨ x.writes.length < 30 := by
  cases hl : look x.writes key with
  | some v => exact .inl rfl
  | none =>
    right
    have hnot : key ∉ x.writes.map (·.1) := fun hm => by
      obtain ⟨q, hq, e⟩ := List.mem_map.1 hm
      exact look_none.1 hl q hq e
    have := length_le_of_subset (l := key :: x.writes.map (·.1)) (K := K) (List.nodup_cons.2 ⟨hnot, writes_nodup h.st hx⟩) (fun k hk => by
      rcases List.mem_cons.1 hk with rfl | hk
      · exact hkey
      · obtain ⟨q, hq, rfl⟩ := List.mem_map.1 hk
        exact h.win _ hx q hq)
    simp at this
    omega

theorem good_zero (b : Nat) : Good (Rep.zero b) :=
  ⟨⟨by simp [Rep.zero], by simp [Rep.zero]⟩, ⟨by simp [Rep.zero], by simp [Rep.zero]⟩, by simp [Rep.zero], fun p hp => (by cases hp), fun p hp => (by cases hp), fun p hp => (by cases hp), fun p hp => (by cases hp), fun p hp => (by cases hp), fun p hp => (by cases hp), fun p hp => (by cases hp), fun p hp => (by cases hp), fun p hp => (by cases hp), List.Pairwise.nil, fun k => ⟨fun hk => (by cases hk), fun ⟨x, hx⟩ => (by cases hx)⟩⟩

theorem keeps_off {R : Rep} {O : Nat → Prop} {w w' : World} (h : ∀ k ∈ R.fp, ¬ O k) (hk : Keeps (· ∈ R.fp) w w') : Keeps (fun k => ¬ O k) w w' := hk.mono (fun k _ hf => h k hf)

/-- Begin -/
theorem begin_s {K : List ByteArray} {O : Nat → Prop} {w : World} {b : Nat} {A : Abs} (h : SAt K O w b A) (hO : ∀ k, O k → k < w.heap.size) (hl : A.works.length < 8) (hb : A.begun < 1000000000000000) :
    Calls Tryz.prog 15 #[.pointer (some ⟨b, 0, none⟩)] w fun e w' => e = .returned (.tuple #[.int .i64 (A.begun + 1), .int .i64 0]) ∧ SAt K O w' b A.opened ∧ Keeps (fun k => ¬ O k) w w' := by
  obtain ⟨R, hi, rfl, rfl, hf⟩ := h
  have hl' : R.works.length < 8 := by simpa [Rep.abs] using hl
  have hb' : R.begun < 1000000000000000 := hb
  have hnone : look R.works (R.begun + 1) = none := look_none.2 (fun p hp e => by have := hi.good.numbers p hp; omega)
  have hcall : Calls Tryz.prog 15 #[.pointer (some ⟨R.sb, 0, none⟩)] w fun e w' => e = .returned (.tuple #[.int .i64 (R.begun + 1), .int .i64 0]) ∧ BeginPost R w w' := by
    cases hwm : R.wm with
    | none => exact begin_none R w hi.st hwm hi.good.begun.1 (by omega)
    | some b0 => exact begin_some R w hi.st b0 hwm hl' hi.good.begun.1 (by omega) hnone
  refine hcall.mono ?_
  rintro e w' ⟨rfl, bb, m, wm, h1, h2, h3, h4, h5⟩
  refine ⟨rfl, ⟨_, ⟨h1, hi.good.entered hl' hb' bb m wm, ⟨hi.tied.rises, hi.tied.keys, hi.tied.filled⟩, hi.pm, fun _ => wm_some h1 (n := R.begun + 1) (x := ⟨bb, m, R.now, []⟩) ?_, hi.kin, ?_⟩, rfl, ?_, ?_⟩, keeps_off hf h2⟩
  · exact look_of_mem (works_nodup h1) (List.mem_append_right _ (by simp))
  · intro p hp q hq
    rcases List.mem_append.1 hp with hp | hp
    · exact hi.win p hp q hq
    · have e : p = (R.begun + 1, ⟨bb, m, R.now, []⟩) := by simpa using hp
      subst e
      cases hq
  · simp [Rep.abs, Abs.opened]
  · intro k hk
    have hk' : k = R.sb ∨ k ∈ wm.toList ∨ k ∈ R.fp ∨ k = bb ∨ k = m := by
      simp only [Rep.fp, Rep.fpWorks, Rep.fpPast, List.mem_cons, List.mem_append, List.flatMap_append, List.flatMap_cons, List.flatMap_nil, List.append_nil, List.not_mem_nil, or_false] at hk ⊢
      rcases hk with h | ((h | h) | h | h) | h
      · exact .inl h
      · exact .inr (.inl h)
      · exact .inr (.inr (.inl (.inr (.inl (.inl (.inr h))))))
      · exact .inr (.inr (.inl (.inr (.inl (.inr h)))))
      · exact .inr (.inr (.inr h))
      · exact .inr (.inr (.inl (.inr (.inr h))))
    intro ho
    have hk2 := hO k ho
    rcases hk' with rfl | h | h | rfl | rfl
    · exact hf _ (by simp [Rep.fp]) ho
    · rcases h3 with rfl | ⟨q, rfl, hq⟩
      · exact hf k (by simp only [Rep.fp, Rep.fpWorks, List.mem_cons, List.mem_append]; exact .inr (.inl (.inl (.inl h)))) ho
      · have : k = q := by simp at h; omega
        omega
    · exact hf k h ho
    · omega
    · omega

end Go.Proofs.YtpagenipflmlfaaGreatDoor

/- Put, Delete, Abort, Get, Look of a store, from outside. -/

namespace Go.Proofs.YtpagenipflmlfaaGreatDoor

open Go.RowKit Go.Shelf

theorem fp_written {R : Rep} {n : Int} {x : WkR} {l : List (ByteArray × Ver)} (hn : look R.works n = some x) : Rep.fp { R with works := put R.works n { x with writes := l } } = R.fp := by
  have e := put_flatMap (fun p : Int × WkR => [p.2.blk, p.2.mb]) (v := { x with writes := l }) hn rfl
  simp only [Rep.fp, Rep.fpWorks, Rep.fpPast, e]

theorem Inv.wrote {K : List ByteArray} {w w' : World} {R : Rep} {n : Int} {x : WkR} {key val : ByteArray} {gone : Bool} (h : Inv K w R) (hK : K.length ≤ 30) (hn : look R.works n = some x) (hkey : key ∈ K) (hkb : keyB key = true) (hvb : valB val = true)
    (hs : StoreAt w' { R with works := put R.works n { x with writes := put x.writes key ⟨0, val, gone⟩ } }) : Inv K w' { R with works := put R.works n { x with writes := put x.writes key ⟨0, val, gone⟩ } } := by
  have hx := look_mem hn
  refine ⟨hs, h.good.written hn (works_nodup h.st) (writes_nodup h.st hx) hkb hvb (h.fits hK hx hkey), ⟨h.tied.rises, h.tied.keys, h.tied.filled⟩, h.pm, h.wm, h.kin, ?_⟩
  intro p hp q hq
  rcases mem_put (works_nodup h.st) hp with rfl | ⟨h1, _⟩
  · rcases mem_put (writes_nodup h.st hx) hq with rfl | ⟨h2, _⟩
    · exact hkey
    · exact h.win _ hx q h2
  · exact h.win p h1 q hq

theorem abs_put (R : Rep) (n : Int) (x : WkR) (l : List (ByteArray × Ver)) : (put R.works n { x with writes := l }).map (fun p => (p.1, (p.2.began, p.2.writes))) = put R.abs.works n (x.began, l) := by
  have := put_map (fun y : WkR => (y.began, y.writes)) R.works n { x with writes := l }
  exact this.symm

theorem abs_del (R : Rep) (n : Int) : (del R.works n).map (fun p => (p.1, (p.2.began, p.2.writes))) = del R.abs.works n := by
  have := del_map (fun y : WkR => (y.began, y.writes)) R.works n
  exact this.symm

/-- write -/
theorem write_s {K : List ByteArray} {O : Nat → Prop} {w : World} {b : Nat} {A : Abs} {n bg : Int} {ws : List (ByteArray × Ver)} {key val : ByteArray} (gone : Bool) (h : SAt K O w b A) (hK : K.length ≤ 30) (hn : look A.works n = some (bg, ws)) (hkey : key ∈ K) (hkb : keyB key = true) (hvb : valB val = true) :
    Calls Tryz.prog 45 #[.pointer (some ⟨b, 0, none⟩), .int .i64 n, .string key, .agg #[.int .i64 0, .string val, .bool gone]] w fun e w' => e = .returned (.int .i64 0) ∧ SAt K O w' b (A.wrote n bg ws key ⟨0, val, gone⟩) ∧ Keeps (fun k => ¬ O k) w w' := by
  obtain ⟨R, hi, rfl, rfl, hf⟩ := h
  obtain ⟨x, hx, rfl, rfl⟩ := abs_look hn
  refine (write_ok R n x key val gone w hi.st hx hkb hvb (hi.fits hK (look_mem hx) hkey) (hi.good.writes30 _ (look_mem hx))).mono ?_
  rintro e w' ⟨rfl, h1, h2⟩
  refine ⟨rfl, ⟨_, hi.wrote hK hx hkey hkb hvb h1, rfl, ?_, ?_⟩, keeps_off hf h2⟩
  · simp only [Rep.abs, Abs.wrote]
    rw [abs_put]
    rfl
  · rw [fp_written hx]
    exact hf

set_option maxRecDepth 100000 in
set_option maxHeartbeats 400000 in
theorem put_s {K : List ByteArray} {O : Nat → Prop} {w : World} {b : Nat} {A : Abs} {n bg : Int} {ws : List (ByteArray × Ver)} {key val : ByteArray} (h : SAt K O w b A) (hK : K.length ≤ 30) (hn : look A.works n = some (bg, ws)) (hkey : key ∈ K) (hkb : keyB key = true) (hvb : valB val = true) :
    Calls Tryz.prog 16 #[.pointer (some ⟨b, 0, none⟩), .int .i64 n, .string key, .string val] w fun e w' => e = .returned (.int .i64 0) ∧ SAt K O w' b (A.wrote n bg ws key ⟨0, val, false⟩) ∧ Keeps (fun k => ¬ O k) w w' := by
  have HC := hid (write_s (val := val) false h hK hn hkey hkb hvb)
  clear h hn hkey hkb hvb
  go_enter Tryz.func16, Tryz.ntmps16
  go_wp2_with (go_at_call 45; go_must (refine (HC.out).mono ?_; rintro e w1 ⟨rfl, h1, h2⟩))
  go_ret
  exact ⟨rfl, h1, h2⟩

end Go.Proofs.YtpagenipflmlfaaGreatDoor

/- Commit of a store, from outside. -/

namespace Go.Proofs.YtpagenipflmlfaaGreatDoor

open Go.RowKit Go.Shelf

theorem look_isSome {β : Type} (l : List (ByteArray × β)) (k : ByteArray) : (look l k).isSome = true ↔ k ∈ l.map (·.1) := by
  cases h : look l k with
  | none =>
    simp only [Option.isSome_none, Bool.false_eq_true, false_iff]
    intro hm
    obtain ⟨q, hq, e⟩ := List.mem_map.1 hm
    exact look_none.1 h q hq e
  | some v =>
    simp only [Option.isSome_some, true_iff]
    exact List.mem_map.2 ⟨_, look_mem h, rfl⟩

theorem memB_perm {ks : List ByteArray} {ws : List (ByteArray × Ver)} (hp : ks.Perm (ws.map (·.1))) (k : ByteArray) : memB ks k = (look ws k).isSome := by
  rw [Bool.eq_iff_iff, memB_iff, look_isSome]
  exact hp.mem_iff

theorem vers_ne {R : Rep} (t : Tied R) {k : ByteArray} (hk : k ∈ R.keys) : versOf R.hist k ≠ [] := by
  have h1 : (look R.hist k).isSome = true := by rw [← t.keys]; exact (memB_iff _ _).2 hk
  obtain ⟨x, hx⟩ := Option.isSome_iff_exists.1 h1
  have h2 := t.filled _ (look_mem hx)
  unfold versOf
  rw [hx]
  exact h2

theorem keys_of_vers {R : Rep} (t : Tied R) {k : ByteArray} (hk : versOf R.hist k ≠ []) : k ∈ R.keys := by
  rw [← memB_iff, t.keys]
  unfold versOf at hk
  cases hl : look R.hist k with
  | none => rw [hl] at hk; simp at hk
  | some x => rfl

/-- The keys of what has grown. -/
theorem grew_keys {R Rn : Rep} {ks : List ByteArray} {ver : ByteArray → Ver} (t : Tied R) (h : Grew R ks ver Rn) {k : ByteArray} (hk : k ∈ Rn.keys) : k ∈ ks ∨ k ∈ R.keys := by
  have h1 := vers_ne h.tied hk
  rw [h.vers] at h1
  cases hm : memB ks k with
  | true => exact .inl ((memB_iff _ _).1 hm)
  | false =>
    rw [hm] at h1
    exact .inr (keys_of_vers t (by simpa using h1))

theorem Inv.del {K : List ByteArray} {w w' : World} {R : Rep} {n : Int} (h : Inv K w R) (hs : StoreAt w' { R with works := del R.works n }) : Inv K w' { R with works := del R.works n } :=
  ⟨hs, h.good.del n, ⟨h.tied.rises, h.tied.keys, h.tied.filled⟩, h.pm, h.wm, h.kin, fun p hp => h.win p ((del_sublist _ _).subset hp)⟩

/-- Commit of one that has written: a clash, or the next state -/
theorem commit_s {K : List ByteArray} {O : Nat → Prop} {w : World} {b : Nat} {A : Abs} {n bg : Int} {ws : List (ByteArray × Ver)} (h : SAt K O w b A) (hO : ∀ k, O k → k < w.heap.size) (hK : K.length ≤ 30) (hn : look A.works n = some (bg, ws)) (hws : ws ≠ []) (hnow : A.now < 1000000000) :
    Calls Tryz.prog 17 #[.pointer (some ⟨b, 0, none⟩), .int .i64 n] w fun e w' =>
      (((∃ k ∈ ws.map (·.1), bg < lastOf (A.vers k)) ∧ e = .returned (.tuple #[.int .i64 0, .int .i64 4]) ∧ SAt K O w' b (A.ended n)) ∨
       ((∀ k ∈ ws.map (·.1), lastOf (A.vers k) ≤ bg) ∧ e = .returned (.tuple #[.int .i64 (A.now + 1), .int .i64 0]) ∧ SAt K O w' b (A.became n ws))) ∧ Keeps (fun k => ¬ O k) w w' := by
  obtain ⟨R, hi, rfl, rfl, hf⟩ := h
  obtain ⟨x, hx, rfl, rfl⟩ := abs_look hn
  have hnow' : R.now < 1000000000 := hnow
  have hkl := hi.keysLen
  have hxm := look_mem hx
  refine (commit_some R n x w hi.st hi.good hi.tied hx hws hnow' (by omega)).mono ?_
  rintro e w' ⟨ks, hr, hp, hc⟩
  have hmem : ∀ k, k ∈ ks ↔ k ∈ x.writes.map (·.1) := fun k => hp.mem_iff
  have hksK : ∀ k ∈ ks, k ∈ K ∧ keyB k = true ∧ valB ((look x.writes k).getD Ver.zero).value = true := fun k hk => by
    have hk' := (hmem k).1 hk
    obtain ⟨v, hv⟩ := Option.isSome_iff_exists.1 ((look_isSome x.writes k).2 hk')
    have hq := look_mem hv
    obtain ⟨q1, q2, _⟩ := hi.good.wkeys _ hxm _ hq
    exact ⟨hi.win _ hxm _ hq, q1, by rw [hv]; exact q2⟩
  rcases hc with ⟨⟨k, hk, hlt⟩, rfl, R0, h1, h2, h3, h4, h5⟩ | ⟨hle, rfl, Rn, h1, h2, h3, h4⟩
  · refine ⟨.inl ⟨⟨k, (hmem k).1 hk, hlt⟩, rfl, R0, ⟨h1, ?_, h2.tied, ?_, ?_, ?_, ?_⟩, ?_, ?_, fun k hk ho => ?_⟩, keeps_off hf h3⟩
    · have hs := h2.same
      have hg := (hi.good.del n).grew h2 (hist_nodup h1.past) R.now ⟨Int.le_refl _, hi.good.now.2⟩ (fun k hk => (by cases hk)) (fun k hk => (by cases hk))
      have e : { R0 with now := R.now } = R0 := by
        have hn' : R0.now = R.now := by rw [hs]
        rw [← hn']
      rw [e] at hg
      exact hg
    · rw [h2.same]; exact hi.pm
    · rw [h2.same]; exact hi.wm
    · intro k hk
      rcases grew_keys (R := { R with works := Go.Proofs.YtpagenipflmlfaaGreatDoor.del R.works n }) ⟨hi.tied.rises, hi.tied.keys, hi.tied.filled⟩ h2 hk with h | h
      · cases h
      · exact hi.kin k h
    · have e : R0.works = Go.Proofs.YtpagenipflmlfaaGreatDoor.del R.works n := by rw [h2.same]
      rw [e]
      exact fun p hp => hi.win p ((del_sublist _ _).subset hp)
    · rw [h2.same]
    · have e1 : R0.works = Go.Proofs.YtpagenipflmlfaaGreatDoor.del R.works n := by rw [h2.same]
      have e2 : R0.now = R.now ∧ R0.floor = R.floor ∧ R0.begun = R.begun := by rw [h2.same]; exact ⟨rfl, rfl, rfl⟩
      have e3 : versOf R0.hist = versOf R.hist := by
        funext k
        rw [h2.vers]
        simp [memB]
      simp only [Rep.abs, Abs.ended, e1, e2.1, e2.2.1, e2.2.2, e3]
      rw [abs_del]
      rfl
    · rcases h4 k hk with h | h
      · exact hf k h ho
      · have := hO k ho
        omega
  · refine ⟨.inr ⟨fun k hk => hle k ((hmem k).2 hk), rfl, _, ⟨h1, ?_, ⟨h2.tied.rises, h2.tied.keys, h2.tied.filled⟩, ?_, ?_, ?_, ?_⟩, ?_, ?_, fun k hk ho => ?_⟩, keeps_off hf h3⟩
    · have hg := hi.good.grew h2 (hist_nodup h1.past) (R.now + 1) ⟨by omega, by omega⟩ (fun k hk => (hksK k hk).2.1) (fun k hk => ⟨(hksK k hk).2.2, rfl, by omega⟩)
      have hg2 := hg.del n
      have e : Rn.works = R.works := by rw [h2.same]
      rw [← e]
      exact hg2
    · show Rn.pm = none ∧ Rn.cm = none
      rw [h2.same]; exact hi.pm
    · show 1 ≤ Rn.begun → ∃ b0, Rn.wm = some b0
      rw [h2.same]; exact hi.wm
    · intro k hk
      rcases grew_keys hi.tied h2 hk with h | h
      · exact (hksK k h).1
      · exact hi.kin k h
    · exact fun p hp => hi.win p ((del_sublist _ _).subset hp)
    · show Rn.sb = R.sb
      rw [h2.same]
    · have e2 : Rn.floor = R.floor ∧ Rn.begun = R.begun := by rw [h2.same]; exact ⟨rfl, rfl⟩
      have e3 : versOf Rn.hist = fun k => if (look x.writes k).isSome then versOf R.hist k ++ [verOf x.writes (R.now + 1) k] else versOf R.hist k := by
        funext k
        rw [h2.vers, memB_perm hp]
      simp only [Rep.abs, Abs.became, e2.1, e2.2, e3]
      rw [abs_del]
      rfl
    · have e : Rn.works = R.works := by rw [h2.same]
      have hk' : k ∈ Rep.fp { Rn with works := Go.Proofs.YtpagenipflmlfaaGreatDoor.del Rn.works n } := by rw [e]; exact hk
      rcases h4 k (fp_del.subset hk') with h | h
      · exact hf k h ho
      · have := hO k ho
        omega

/-- what Get answers -/
def Abs.get (A : Abs) (n : Int) (key : ByteArray) : ByteArray × Int :=
  match look A.works n with
  | none => (ByteArray.empty, 1)
  | some x =>
    if keyB key = true then
      if standsB (seeVer x.2 (A.vers key) x.1 key) = true then (((seeVer x.2 (A.vers key) x.1 key).getD Ver.zero).value, 0) else (ByteArray.empty, 1)
    else (ByteArray.empty, 2)

theorem get_s {K : List ByteArray} {O : Nat → Prop} {w : World} {b : Nat} {A : Abs} {n : Int} {key : ByteArray} (h : SAt K O w b A) (hk : key.size ≤ maxLen) :
    Calls Tryz.prog 18 #[.pointer (some ⟨b, 0, none⟩), .int .i64 n, .string key] w fun e w' => e = .returned (.tuple #[.string (A.get n key).1, .int .i64 (A.get n key).2]) ∧ SAt K O w' b A ∧ Keeps (fun _ => False) w w' := by
  obtain ⟨R, hi, rfl, rfl, hf⟩ := h
  refine (get_any R n key w hi.st hi.good hk).mono ?_
  rintro e w' ⟨rfl, h1⟩
  have e : getAns R n key = R.abs.get n key := by
    unfold getAns Abs.get
    have e : R.abs.works = R.works.map (fun p => (p.1, (fun y : WkR => (y.began, y.writes)) p.2)) := rfl
    rw [e, look_map (fun y : WkR => (y.began, y.writes))]
    cases look R.works n <;> rfl
  rw [e]
  exact ⟨rfl, ⟨R, hi.kept h1 (fun _ _ h => h), rfl, rfl, hf⟩, h1⟩

end Go.Proofs.YtpagenipflmlfaaGreatDoor

/- The twelve keys; what is so of a store as it is told. -/

namespace Go.Proofs.YtpagenipflmlfaaGreatDoor

open Go.RowKit Go.Shelf

/-- the twelve keys -/
def K12 : List ByteArray := (List.range 12).map (fun k : Nat => keyZ (k : Int))

theorem fin12 {P : Int → Prop} (h : ∀ k : Fin 12, P (k.val : Int)) {k : Int} (h0 : 0 ≤ k) (h1 : k < 12) : P k := by
  have := h ⟨k.toNat, by omega⟩
  simp only at this
  have e : (k.toNat : Int) = k := by omega
  rwa [e] at this

theorem key_mem {k : Int} (h0 : 0 ≤ k) (h1 : k < 12) : keyZ k ∈ K12 :=
  fin12 (P := fun k => keyZ k ∈ K12) (fun k => List.mem_map.2 ⟨k.val, List.mem_range.2 k.isLt, rfl⟩) h0 h1

theorem key_ok {k : Int} (h0 : 0 ≤ k) (h1 : k < 12) : keyB (keyZ k) = true :=
  fin12 (P := fun k => keyB (keyZ k) = true) (by decide +kernel) h0 h1

theorem cut_ok (s : ByteArray) : valB (s.extract 0 40) = true := by
  simp [valB, ByteArray.size_extract]
  omega

theorem pick_lt (c : Int) {n : Int} (hn : 1 ≤ n) : 0 ≤ pickZ c n ∧ pickZ c n < n := by
  unfold pickZ
  split
  · exact ⟨Int.emod_nonneg _ (by omega), Int.emod_lt_of_pos _ (by omega)⟩
  · exact ⟨Int.emod_nonneg _ (by omega), Int.emod_lt_of_pos _ (by omega)⟩

theorem look_snoc {α β : Type} [DecidableEq α] : ∀ {l : List (α × β)} {n : α} (x : β), look l n = none → look (l ++ [(n, x)]) n = some x
  | [], n, x, _ => by simp [look]
  | (a, y) :: l, n, x, h => by
    unfold look at h
    simp only [List.cons_append]
    unfold look
    by_cases e : a = n
    · rw [if_pos e] at h; cases h
    · rw [if_neg e] at h ⊢
      exact look_snoc x h

theorem put_snoc {α β : Type} [DecidableEq α] : ∀ {l : List (α × β)} {n : α} (x y : β), look l n = none → put (l ++ [(n, x)]) n y = l ++ [(n, y)]
  | [], n, x, y, _ => by simp [put]
  | (a, z) :: l, n, x, y, h => by
    unfold look at h
    simp only [List.cons_append]
    unfold put
    by_cases e : a = n
    · rw [if_pos e] at h; cases h
    · rw [if_neg e] at h ⊢
      rw [put_snoc x y h]

theorem del_snoc {α β : Type} [DecidableEq α] : ∀ {l : List (α × β)} {n : α} (x : β), look l n = none → del (l ++ [(n, x)]) n = l
  | [], n, x, _ => by simp [del]
  | (a, z) :: l, n, x, h => by
    unfold look at h
    simp only [List.cons_append]
    unfold del
    by_cases e : a = n
    · rw [if_pos e] at h; cases h
    · rw [if_neg e] at h ⊢
      rw [del_snoc x h]

/-- What is so of a store as it is told. -/
structure Sound (A : Abs) : Prop where
  now : 0 ≤ A.now ∧ A.now ≤ 1000000000
  begun : 0 ≤ A.begun
  fresh : look A.works (A.begun + 1) = none
  nodup : (A.works.map (·.1)).Nodup
  numbers : ∀ p ∈ A.works, p.1 ≤ A.begun
  began : ∀ p ∈ A.works, 0 ≤ p.2.1 ∧ p.2.1 ≤ A.now
  wnodup : ∀ p ∈ A.works, (p.2.2.map (·.1)).Nodup
  rising : ∀ k, Rising (A.vers k)
  states : ∀ k, ∀ v ∈ A.vers k, 0 ≤ v.state ∧ v.state ≤ A.now

theorem SAt.sound {K : List ByteArray} {O : Nat → Prop} {w : World} {b : Nat} {A : Abs} (h : SAt K O w b A) : Sound A := by
  obtain ⟨R, hi, rfl, rfl, hf⟩ := h
  have hn := works_nodup hi.st
  have hnum : ∀ p ∈ R.abs.works, p.1 ≤ R.begun := fun p hp => by
    obtain ⟨q, hq, rfl⟩ := List.mem_map.1 hp
    exact (hi.good.numbers q hq).2
  refine ⟨hi.good.now, hi.good.begun.1, look_none.2 (fun p hp e => ?_), ?_, hnum, fun p hp => ?_, fun p hp => ?_, fun k => (base_vers hi.good k).1, fun k v hv => ((base_vers hi.good k).2.1 v hv).1⟩
  · have h1 := hnum p hp
    have h2 : p.1 = R.begun + 1 := e
    omega
  · simpa [Rep.abs, List.map_map, Function.comp_def] using hn
  · obtain ⟨q, hq, rfl⟩ := List.mem_map.1 hp
    exact hi.good.began q hq
  · obtain ⟨q, hq, rfl⟩ := List.mem_map.1 hp
    exact writes_nodup hi.st (n := q.1) (x := q.2) hq

theorem last_le {vs : List Ver} {now : Int} (h0 : 0 ≤ now) (h : ∀ v ∈ vs, 0 ≤ v.state ∧ v.state ≤ now) : lastOf vs ≤ now := by
  unfold lastOf
  cases hl : vs.getLast? with
  | none => simpa using h0
  | some v =>
    have := h v (List.mem_of_getLast? hl)
    simpa using this.2

theorem Sound.last {A : Abs} (h : Sound A) (k : ByteArray) : lastOf (A.vers k) ≤ A.now := last_le h.now.1 (h.states k)

/-- the next state, by one key -/
def Abs.next (A : Abs) (key : ByteArray) (val : ByteArray) (gone : Bool) : Abs :=
  { A with now := A.now + 1, begun := A.begun + 1, vers := fun k => if k = key then A.vers k ++ [⟨A.now + 1, val, gone⟩] else A.vers k }

theorem next_eq {A : Abs} (h : Sound A) (key val : ByteArray) (gone : Bool) :
    (A.opened.wrote (A.begun + 1) A.now [] key ⟨0, val, gone⟩).became (A.begun + 1) (put [] key ⟨0, val, gone⟩) = A.next key val gone := by
  have e1 : put (A.works ++ [(A.begun + 1, (A.now, []))]) (A.begun + 1) (A.now, put [] key (⟨0, val, gone⟩ : Ver)) = A.works ++ [(A.begun + 1, (A.now, put [] key ⟨0, val, gone⟩))] := put_snoc _ _ h.fresh
  have e2 := del_snoc (A.now, put [] key (⟨0, val, gone⟩ : Ver)) h.fresh
  simp only [Abs.became, Abs.wrote, Abs.opened, Abs.next, e1, e2]
  congr 1
  funext k
  by_cases e : key = k
  · subst e
    simp [put, look, verOf]
  · have e' : ¬ k = key := fun h => e h.symm
    simp [put, look, e, e']

end Go.Proofs.YtpagenipflmlfaaGreatDoor

/- Two rising lists of keys, gone through as one: least, behind. -/

namespace Go.Proofs.YtpagenipflmlfaaGreatDoor

open Go.RowKit Go.Shelf

/-- a slice of strings, wherever it begins, in a block of G -/
def Seg (G : List Nat) (w : World) (v : Value) (xs : List ByteArray) : Prop :=
  (xs = [] ∧ ∃ oa cap, v = .slice oa 0 cap) ∨ ∃ g off cap, g ∈ G ∧ v = .slice (some ⟨g, off, none⟩) xs.length cap ∧ xs.length ≤ cap ∧ cap ≤ maxLen ∧ ∀ i (h : i < xs.length), w.cell? ⟨g, off + i, none⟩ = some (.string xs[i])

def behindL (xs : List ByteArray) (key : ByteArray) : List ByteArray :=
  match xs with
  | [] => []
  | x :: r => if x = key then r else x :: r

/-- the rest of a slice behind its first, if that is to go -/
def behindV (v : Value) (hit : Bool) : Value :=
  match v, hit with
  | .slice (some ⟨g, off, none⟩) (n + 1) cap, true => if cap = 1 then .slice (some ⟨g, off, none⟩) n 0 else .slice (some ⟨g, off + 1, none⟩) n (cap - 1)
  | v, _ => v

def hitB (xs : List ByteArray) (key : ByteArray) : Bool :=
  match xs with
  | [] => false
  | x :: _ => decide (x = key)

def leastL (a b : List ByteArray) : ByteArray :=
  match a, b with
  | [], [] => ByteArray.empty
  | [], y :: _ => y
  | x :: _, [] => x
  | x :: _, y :: _ => if ltK y x = true then y else x

theorem Seg.kept {G : List Nat} {w w' : World} {v : Value} {xs : List ByteArray} (h : Seg G w v xs) (hk : ∀ k ∈ G, w'.heap[k]? = w.heap[k]?) : Seg G w' v xs := by
  rcases h with h | ⟨g, off, cap, hG, h1, h2, h3, h4⟩
  · exact .inl h
  · exact .inr ⟨g, off, cap, hG, h1, h2, h3, fun i hi => by rw [← h4 i hi]; simp only [World.cell?, hk g hG]⟩

theorem Seg.behind {G : List Nat} {w : World} {v : Value} {xs : List ByteArray} (h : Seg G w v xs) (key : ByteArray) : Seg G w (behindV v (hitB xs key)) (behindL xs key) := by
  rcases h with ⟨rfl, oa, cap, rfl⟩ | ⟨g, off, cap, hG, rfl, h1, h2, h3⟩
  · exact .inl ⟨rfl, oa, cap, by simp [hitB, behindV]⟩
  · cases xs with
    | nil => exact .inl ⟨rfl, some ⟨g, off, none⟩, cap, by simp [hitB, behindV]⟩
    | cons x r =>
      by_cases hx : x = key
      · have e1 : behindL (x :: r) key = r := by simp [behindL, hx]
        have e2 : hitB (x :: r) key = true := by simp [hitB, hx]
        rw [e1, e2]
        simp only [List.length_cons, behindV] at h1 ⊢
        split
        · exact .inl ⟨List.eq_nil_of_length_eq_zero (by omega), _, 0, by rw [show r.length = 0 by omega]⟩
        · refine .inr ⟨g, off + 1, cap - 1, hG, rfl, by omega, by omega, fun i hi => ?_⟩
          have := h3 (i + 1) (by simpa using hi)
          rw [show off + 1 + i = off + (i + 1) by omega]
          simpa using this
      · have e1 : behindL (x :: r) key = x :: r := by simp [behindL, hx]
        have e2 : hitB (x :: r) key = false := by simp [hitB, hx]
        rw [e1, e2]
        exact .inr ⟨g, off, cap, hG, rfl, h1, h2, h3⟩

theorem Seg.form {G : List Nat} {w : World} {v : Value} {xs : List ByteArray} (h : Seg G w v xs) : ∃ oa cap, v = .slice oa xs.length cap := by
  rcases h with ⟨rfl, oa, cap, rfl⟩ | ⟨g, off, cap, _, rfl, _⟩
  · exact ⟨oa, cap, rfl⟩
  · exact ⟨_, cap, rfl⟩

theorem Seg.head {G : List Nat} {w : World} {oa : Option Addr} {cap : Nat} {x : ByteArray} {r : List ByteArray} (h : Seg G w (.slice oa (x :: r).length cap) (x :: r)) : ∃ g off, oa = some ⟨g, off, none⟩ ∧ w.cell? ⟨g, off, none⟩ = some (.string x) := by
  rcases h with ⟨h, _⟩ | ⟨g, off, cap', _, e, _, _, h3⟩
  · cases h
  · simp at e
    exact ⟨g, off, e.1, h3 0 (by simp)⟩

set_option maxRecDepth 100000 in
set_option maxHeartbeats 400000 in
theorem behind_any {G : List Nat} (v : Value) (key : ByteArray) (xs : List ByteArray) (w : World) (h : Seg G w v xs) :
    Calls Tryz.prog 91 #[v, .string key] w fun e w' => e = .returned (behindV v (hitB xs key)) ∧ w' = w := by
  rcases h with ⟨rfl, oa, cap, rfl⟩ | ⟨g, off, cap, _, rfl, h1, h2, h3⟩
  · have e : behindV (.slice oa 0 cap) (hitB [] key) = .slice oa 0 cap := by simp [hitB, behindV]
    rw [e]
    clear e
    go_enter Tryz.func91, Tryz.ntmps91
    go_wp2
    go_ret
    exact ⟨rfl, rfl⟩
  · cases xs with
    | nil =>
      have e : behindV (.slice (some ⟨g, off, none⟩) ([] : List ByteArray).length cap) (hitB [] key) = .slice (some ⟨g, off, none⟩) 0 cap := by simp [hitB, behindV]
      rw [e]
      clear e
      go_enter Tryz.func91, Tryz.ntmps91
      go_wp2
      go_ret
      exact ⟨rfl, rfl⟩
    | cons x r =>
      have c0 : w.cell? ⟨g, off, none⟩ = some (.string x) := h3 0 (by simp)
      unfold maxLen at h2
      simp only [List.length_cons] at h1 ⊢
      clear h3
      by_cases hx : x = key
      · have e2 : hitB (x :: r) key = true := by simp [hitB, hx]
        have hxb : (x.toList == key.toList) = true := (Lib.bytes_beq_iff _ _).2 hx
        rw [e2]
        simp only [behindV]
        clear hx e2
        by_cases hc1 : cap = 1
        · subst hc1
          obtain rfl : r = [] := List.eq_nil_of_length_eq_zero (by omega)
          simp only [if_true, List.length_nil]
          go_enter Tryz.func91, Tryz.ntmps91
          go_wp2
          go_ret
          exact ⟨rfl, rfl⟩
        · rw [if_neg hc1]
          go_enter Tryz.func91, Tryz.ntmps91
          go_wp2
          go_ret
          exact ⟨rfl, rfl⟩
      · have e2 : hitB (x :: r) key = false := by simp [hitB, hx]
        have hxb : (x.toList == key.toList) = false := (Lib.bytes_beq_false_iff _ _).2 hx
        rw [e2]
        simp only [behindV]
        clear hx e2
        go_enter Tryz.func91, Tryz.ntmps91
        go_wp2
        go_ret
        exact ⟨rfl, rfl⟩

/-- min of two keys -/
theorem min_str (x y : ByteArray) (W : World) : (Builtin.min_ #[9, 9] 9 #[.string x, .string y]).run Tryz.prog W = .ok (.string (if ltK y x = true then y else x)) W := by
  cases h : ltK y x with
  | true =>
    simp [Builtin.min_, Builtin.min2, Op.stringOp, asBool]
    rintro (h1 | h1)
    · have h2 := ltK_trans (a := y) (b := x) (c := y) h h1
      rw [ltK_irrefl] at h2
      cases h2
    · exact (Lib.bytes_beq_iff x y).1 (by simp [h1])
  | false =>
    simp [Builtin.min_, Builtin.min2, Op.stringOp, asBool]
    intro h1 _
    exact ltK_total h h1

set_option maxRecDepth 100000 in
set_option maxHeartbeats 400000 in
theorem least_any {G : List Nat} (va vb : Value) (a b : List ByteArray) (w : World) (ha : Seg G w va a) (hb : Seg G w vb b) (hne : a ≠ [] ∨ b ≠ []) :
    Calls Tryz.prog 90 #[va, vb] w fun e w' => e = .returned (.string (leastL a b)) ∧ Keeps (fun _ => False) w w' := by
  obtain ⟨oa, ca, rfl⟩ := ha.form
  obtain ⟨ob, cb, rfl⟩ := hb.form
  cases a with
  | nil =>
    cases b with
    | nil => simp at hne
    | cons y r =>
      obtain ⟨g, off, rfl, c0⟩ := hb.head
      clear ha hb hne
      have e : leastL [] (y :: r) = y := rfl
      rw [e]
      clear e
      go_enter Tryz.func90, Tryz.ntmps90
      go_wp2
      go_ret
      exact ⟨rfl, Keeps.refl _ _⟩
  | cons x q =>
    obtain ⟨ga, offa, rfl, c0⟩ := ha.head
    cases b with
    | nil =>
      clear ha hb hne
      have e : leastL (x :: q) [] = x := rfl
      rw [e]
      clear e
      go_enter Tryz.func90, Tryz.ntmps90
      go_wp2
      go_ret
      exact ⟨rfl, Keeps.refl _ _⟩
    | cons y r =>
      obtain ⟨gb, offb, rfl, d0⟩ := hb.head
      clear ha hb hne
      have e : leastL (x :: q) (y :: r) = if ltK y x = true then y else x := rfl
      rw [e]
      clear e
      have hmin := min_str x y w.drew
      generalize (if ltK y x = true then y else x) = m at hmin ⊢
      go_enter Tryz.func90, Tryz.ntmps90
      go_wp2
      go_region
      go_wp2
      go_ret
      exact ⟨rfl, Keeps.drew _ _⟩

end Go.Proofs.YtpagenipflmlfaaGreatDoor

/- A range over an iterator that keeps its place in cells of its own, whose rounds all go on. -/

namespace Go.Proofs.YtpagenipflmlfaaGreatDoor

open Go.RowKit Go.Shelf

section

variable {F : Fence} {n : Nat} {P : Program}

/-- The iterator calls yield for each of xs with S xs, in order, if every round goes on; it may write as C allows, a round keeps Kp. -/
def SeqAll {α : Type} (F : Fence) (n : Nat) (P : Program) (g : Nat) (lb : Array Value) (encs : α → Array Value) (C Kp : World → World → Prop) (S : List α → Prop) (N : Nat) (w : World) : Prop :=
  ∀ (l : Nat) (J : List α → World → Prop) (W : World), Keeps (fun _ => False) w W → (∀ pre A B, C A B → J pre A → J pre B) →
    (∀ pre x W1, J pre W1 → pre.length < N → YieldAt F (n - 1) P l (encs x) W1 fun e W' => e = .returned (.bool true) ∧ J (pre ++ [x]) W' ∧ Kp W1 W') →
    J [] W → CallsIn F n P g (#[.func (.yield l) #[] #[]] ++ lb) W fun e W' => (∃ v, e = .returned v) ∧ ∃ xs, S xs ∧ J xs W'

/-- what a round leaves that goes on -/
def goesOn {α : Type} (B : Nat) (Kp : World → World → Prop) (I : List α → World → Prop) (xs : List α) (W : World) : Exit → Act → World → Prop
  | .normal, _, W' => KeepsFrom B W W' ∧ Kp W W' ∧ I xs W'
  | _, _, _ => False

theorem wpIn_range_all {α : Type} {g : Operand} {ps : Array Tmp} {assign body : Code} {Q : Exit → Act → World → Prop} {a : Act} {w : World} (hro : F.round = none) (h1 : 1 ≤ n) {gf : Nat} {lb : Array Value}
    (hg : a.eval g = .func (.func gf) #[] lb) (hFg : F.fn gf) (eg : ∀ args w, (callFunc gf args).run P w = .ok (.enter gf args) w) {encs : α → Array Value} {C Kp : World → World → Prop} {S : List α → Prop} {N : Nat}
    (hseq : SeqAll F (n - 1) P gf lb encs C Kp S N w) (hCs : ∀ A B k, C A B → w.heap.size ≤ k → (∃ o, A.heap[k]? = some o ∧ o.isCells = false) → B.heap[k]? = A.heap[k]?)
    (hKt : ∀ {A B D : World}, Kp A B → Kp B D → Kp A D) (hKb : ∀ (W : World) (l : Nat) (o' : Obj), w.heap.size ≤ l → Kp W (W.putObj l o')) (hps : ∀ x, (encs x).size = ps.size)
    (I : List α → World → Prop) (hI : OwnFrom w.heap.size I) (hIC : ∀ pre A B, C A B → I pre A → I pre B) (h0 : I [] w) (a₁ : α → Act)
    (hassign : ∀ (l : Nat) (x : α) (W : World) (K : Act → World → Prop), K (a₁ x) W → assign.wpIn (F.inRound l) (n - 1 - 1) P (Exit.then K (fun _ _ _ => False)) { tmps := (ps.zip (encs x)).foldl (fun t (p, v) => t.setIfInBounds p v) a.tmps, defers := [] } W)
    (hbody : ∀ (l : Nat) (pre : List α) (x : α) (W : World), I pre W → pre.length < N → body.wpIn (F.inRound l) (n - 1 - 1) P (goesOn w.heap.size Kp I (pre ++ [x]) W) (a₁ x) W)
    (hdone : ∀ (D : Nat) (xs : List α) (W : World), w.heap.size ≤ D → S xs → I xs W → W.heap[D]? = some (.deferred (some [])) → Q .normal { a with defers := { target := .collected D, args := #[] } :: a.defers } W) :
    (Code.rangeFunc g ps assign body).wpIn F n P Q a w := by
  refine wpIn_rangeFunc ?_
  intro fn hfn
  rw [hro]
  obtain ⟨rec, hrec⟩ : ∃ rec : LoopState → Option Code → Loop, rec = fun st pe => { state := st, pending := pe, fn, tmps := a.tmps, params := ps, assign, body, defers := w.heap.size } := ⟨_, rfl⟩
  obtain ⟨W1, hW1⟩ : ∃ W1, (w.alloc (.deferred (some []))).alloc (.loop (rec .ready none)) = W1 := ⟨_, rfl⟩
  have hkw : Keeps (fun _ => False) w W1 := by rw [← hW1]; exact ((Keeps.refl _ w).al _).al _
  have hL1 : W1.heap[w.heap.size + 1]? = some (.loop (rec .ready none)) := by
    rw [← hW1]; have := heap_new (w.alloc (.deferred (some []))) (.loop (rec .ready none)); rwa [World.size_alloc] at this
  have hD1 : W1.heap[w.heap.size]? = some (.deferred (some [])) := by
    rw [← hW1]; exact (Below.heap_alloc _ _ _ (by simp)).trans (heap_new w _)
  have hI1 : I [] W1 := by rw [← hW1]; exact hI.alloc _ (hI.alloc _ h0)
  refine ⟨w.heap.size + 1, [{ target := .collected w.heap.size, args := #[] }], W1, { target := .fn (.func gf) lb, args := #[.func (.yield (w.heap.size + 1)) #[] #[]] }, W1, gf,
    #[.func (.yield (w.heap.size + 1)) #[] #[]] ++ lb, W1, ?_, ?_, ?_, ?_, fun _ => h1, ?_⟩
  · rw [← hW1, hrec]; exact run_enterLoop_outer _ _ _ _ _
  · simp only [resolve, hg]
    simp [go_sem]
  · intro f' hf'; simp [Target.leads] at hf'; subst hf'; exact hFg
  · simp [invoke, go_sem, eg]
  · refine (hseq (w.heap.size + 1) (fun pre W => I pre W ∧ W.heap[w.heap.size + 1]? = some (.loop (rec .ready none)) ∧ W.heap[w.heap.size]? = some (.deferred (some []))) W1 hkw
      (fun pre A B hC hJ => ⟨hIC pre A B hC hJ.1, (hCs A B _ hC (by omega) ⟨_, hJ.2.1, rfl⟩).trans hJ.2.1, (hCs A B _ hC (Nat.le_refl _) ⟨_, hJ.2.2, rfl⟩).trans hJ.2.2⟩) ?_ ⟨hI1, hL1, hD1⟩).mono ?_
    · rintro pre x W ⟨hi, hl, hk⟩ hlen
      have hlt : w.heap.size + 1 < W.heap.size := (Array.getElem?_eq_some_iff.1 hl).1
      have hy := run_yield (P := P) (args := encs x) hl (by rw [hrec]; exact hps x)
      rw [hrec] at hy
      refine ⟨fn, _, assign, body, hy, roundIn_of_wpIn hfn (hassign _ x W _ ⟨_, run_beginRound hl (by rw [hrec]), ?_⟩)⟩
      have hl2 : (W.putObj (w.heap.size + 1) (.loop { rec .ready none with state := .busy })).heap[w.heap.size + 1]? = some (.loop { rec .ready none with state := .busy }) := World.putObj_heap_same hlt
      have hk2 : (W.putObj (w.heap.size + 1) (.loop { rec .ready none with state := .busy })).heap[w.heap.size]? = some (.deferred (some [])) := (World.putObj_heap_other (by omega)).trans hk
      refine wpIn_mono (hbody _ pre x _ (hI.putObj _ hi (by omega) hl rfl) hlen) ?_
      rintro e a3 W3 hp
      cases e with
      | normal =>
        obtain ⟨hk3, hkp3, hi3⟩ := hp
        have hl3 := hk3.same _ _ (by omega) hl2 rfl
        have hr := run_endRound (P := P) none hl3
        have hl3' : W3.heap[w.heap.size + 1]? = some (.loop { rec .ready none with state := .busy }) := hl3
        rw [hrec] at hr
        refine ⟨_, _, hr, rfl, ⟨hI.putObj _ hi3 (by omega) hl3' rfl, ?_, ?_⟩, hKt (hKt (hKb _ _ _ (by omega)) hkp3) (hKb _ _ _ (by omega))⟩
        · rw [hrec]; exact World.putObj_heap_same (Array.getElem?_eq_some_iff.1 hl3).1
        · exact (World.putObj_heap_other (by omega)).trans (hk3.same _ _ (Nat.le_refl _) hk2 rfl)
      | ret => exact hp.elim
      | exit id => exact hp.elim
      | goto t => exact hp.elim
      | panic ch => exact hp.elim
      | outgrown => exact hp.elim
    · rintro e W2 ⟨⟨v, rfl⟩, xs, hS, hi, hl, hk⟩
      exact ⟨none, _, by have := run_endLoop (P := P) hl (by rw [hrec]; simp); rw [hrec] at this; exact this, hdone _ xs _ (Nat.le_refl _) hS (hI.putObj _ hi (by omega) hl rfl) ((World.putObj_heap_other (by omega)).trans hk)⟩

end

end Go.Proofs.YtpagenipflmlfaaGreatDoor

/- merged: two rising lists of keys as one. -/

namespace Go.Proofs.YtpagenipflmlfaaGreatDoor

open Go.RowKit Go.Shelf

/-- what has come, and what is left of both -/
structure MergeAt (a b a' b' pre : List ByteArray) : Prop where
  come : Rises pre
  ra : Rises a'
  rb : Rises b'
  below : ∀ k ∈ pre, ∀ x, (x ∈ a' ∨ x ∈ b') → ltK k x = true
  all : ∀ k, (k ∈ pre ∨ k ∈ a' ∨ k ∈ b') ↔ (k ∈ a ∨ k ∈ b)
  len : pre.length + (a'.length + b'.length) ≤ a.length + b.length

theorem rises_cons {x : ByteArray} {r : List ByteArray} (h : Rises (x :: r)) : (∀ y ∈ r, ltK x y = true) ∧ Rises r := List.pairwise_cons.1 h

/-- the first of both is not above the others -/
theorem least_le {a b : List ByteArray} (ha : Rises a) (hb : Rises b) (hne : a ≠ [] ∨ b ≠ []) : (leastL a b ∈ a ∨ leastL a b ∈ b) ∧ (∀ x, (x ∈ a ∨ x ∈ b) → x = leastL a b ∨ ltK (leastL a b) x = true) := by
  cases a with
  | nil =>
    cases b with
    | nil => simp at hne
    | cons y r =>
      refine ⟨.inr (by simp [leastL]), fun x hx => ?_⟩
      simp only [leastL]
      rcases hx with hx | hx
      · cases hx
      · rcases List.mem_cons.1 hx with rfl | hx
        · exact .inl rfl
        · exact .inr ((rises_cons hb).1 x hx)
  | cons z q =>
    cases b with
    | nil =>
      refine ⟨.inl (by simp [leastL]), fun x hx => ?_⟩
      simp only [leastL]
      rcases hx with hx | hx
      · rcases List.mem_cons.1 hx with rfl | hx
        · exact .inl rfl
        · exact .inr ((rises_cons ha).1 x hx)
      · cases hx
    | cons y r =>
      have hA := (rises_cons ha).1
      have hB := (rises_cons hb).1
      simp only [leastL]
      cases hlt : ltK y z with
      | true =>
        simp only [if_true]
        refine ⟨.inr (by simp), fun x hx => ?_⟩
        rcases hx with hx | hx
        · rcases List.mem_cons.1 hx with rfl | hx
          · exact .inr hlt
          · exact .inr (ltK_trans hlt (hA x hx))
        · rcases List.mem_cons.1 hx with rfl | hx
          · exact .inl rfl
          · exact .inr (hB x hx)
      | false =>
        simp only [Bool.false_eq_true, if_false]
        refine ⟨.inl (by simp), fun x hx => ?_⟩
        rcases hx with hx | hx
        · rcases List.mem_cons.1 hx with rfl | hx
          · exact .inl rfl
          · exact .inr (hA x hx)
        · have hzy : y = z ∨ ltK z y = true := by
            cases h2 : ltK z y with
            | true => exact .inr rfl
            | false => exact .inl (ltK_total hlt h2)
          rcases List.mem_cons.1 hx with rfl | hx
          · exact hzy
          · rcases hzy with rfl | h2
            · exact .inr (hB x hx)
            · exact .inr (ltK_trans h2 (hB x hx))

/-- what is left of a rising list behind its first, if that is the key -/
theorem behind_mem {a : List ByteArray} {k : ByteArray} (ha : Rises a) (hle : ∀ x ∈ a, x = k ∨ ltK k x = true) : Rises (behindL a k) ∧ (∀ x, x ∈ behindL a k ↔ x ∈ a ∧ x ≠ k) := by
  cases a with
  | nil => exact ⟨ha, fun x => by simp [behindL]⟩
  | cons z q =>
    obtain ⟨h1, h2⟩ := rises_cons ha
    by_cases e : z = k
    · subst e
      have e1 : behindL (z :: q) z = q := by simp [behindL]
      rw [e1]
      refine ⟨h2, fun x => ⟨fun hx => ⟨List.mem_cons_of_mem _ hx, fun e => ?_⟩, fun hx => ?_⟩⟩
      · have := h1 x hx
        rw [e, ltK_irrefl] at this
        cases this
      · rcases List.mem_cons.1 hx.1 with e | h
        · exact absurd e hx.2
        · exact h
    · have e1 : behindL (z :: q) k = z :: q := by simp [behindL, e]
      rw [e1]
      refine ⟨ha, fun x => ⟨fun hx => ⟨hx, fun ex => ?_⟩, fun hx => hx.1⟩⟩
      subst ex
      rcases List.mem_cons.1 hx with ex | h
      · exact e ex.symm
      · have h3 := h1 x h
        rcases hle z (by simp) with ez | h4
        · exact e ez
        · have := ltK_trans h3 h4
          rw [ltK_irrefl] at this
          cases this

theorem behind_len (a : List ByteArray) (k : ByteArray) : (behindL a k).length ≤ a.length := by
  cases a with
  | nil => simp [behindL]
  | cons z q => by_cases e : z = k <;> simp [behindL, e]

theorem merge_less (a b : List ByteArray) (hne : a ≠ [] ∨ b ≠ []) : (behindL a (leastL a b)).length + (behindL b (leastL a b)).length < a.length + b.length := by
  cases a with
  | nil =>
    cases b with
    | nil => simp at hne
    | cons y r => simp [behindL, leastL]
  | cons z q =>
    cases b with
    | nil => simp [behindL, leastL]
    | cons y r =>
      by_cases h : ltK y z = true
      · have e : leastL (z :: q) (y :: r) = y := by simp [leastL, h]
        rw [e]
        have h1 := behind_len (z :: q) y
        have e2 : behindL (y :: r) y = r := by simp [behindL]
        rw [e2]
        simp only [List.length_cons] at h1 ⊢
        omega
      · have e : leastL (z :: q) (y :: r) = z := by simp [leastL, h]
        rw [e]
        have h1 := behind_len (y :: r) z
        have e2 : behindL (z :: q) z = q := by simp [behindL]
        rw [e2]
        simp only [List.length_cons] at h1 ⊢
        omega

theorem MergeAt.step {a b a' b' pre : List ByteArray} (h : MergeAt a b a' b' pre) (hne : a' ≠ [] ∨ b' ≠ []) : MergeAt a b (behindL a' (leastL a' b')) (behindL b' (leastL a' b')) (pre ++ [leastL a' b']) := by
  obtain ⟨h1, h2⟩ := least_le h.ra h.rb hne
  obtain ⟨pa, qa⟩ := behind_mem h.ra (fun x hx => h2 x (.inl hx))
  obtain ⟨pb, qb⟩ := behind_mem h.rb (fun x hx => h2 x (.inr hx))
  refine ⟨?_, pa, pb, fun k hk x hx => ?_, fun k => ?_, ?_⟩
  · unfold Rises
    rw [List.pairwise_append]
    refine ⟨h.come, List.pairwise_singleton _ _, fun x hx y hy => ?_⟩
    have ey : y = leastL a' b' := by simpa using hy
    rw [ey]
    exact h.below x hx _ h1
  · have hx' : (x ∈ a' ∨ x ∈ b') ∧ x ≠ leastL a' b' := by
      rcases hx with hx | hx
      · exact ⟨.inl ((qa x).1 hx).1, ((qa x).1 hx).2⟩
      · exact ⟨.inr ((qb x).1 hx).1, ((qb x).1 hx).2⟩
    rcases List.mem_append.1 hk with hk | hk
    · exact h.below k hk x hx'.1
    · have ek : k = leastL a' b' := by simpa using hk
      rcases h2 x hx'.1 with e | h3
      · exact absurd e hx'.2
      · rw [ek]; exact h3
  · rw [← h.all k, qa, qb]
    simp only [List.mem_append, List.mem_singleton]
    by_cases e : k = leastL a' b'
    · subst e
      constructor
      · intro _; exact .inr h1
      · intro _; exact .inl (.inr rfl)
    · constructor
      · rintro ((h | h) | h | h)
        · exact .inl h
        · exact absurd h e
        · exact .inr (.inl h.1)
        · exact .inr (.inr h.1)
      · rintro (h | h | h)
        · exact .inl (.inl h)
        · exact .inr (.inl ⟨h, e⟩)
        · exact .inr (.inr ⟨h, e⟩)
  · have h3 := merge_less a' b' hne
    have h4 := h.len
    simp only [List.length_append, List.length_cons, List.length_nil]
    omega

end Go.Proofs.YtpagenipflmlfaaGreatDoor
