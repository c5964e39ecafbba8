import Derived.Test.YtpagenipflmlfaaGreatDoorM04

/- Put and Delete. -/

namespace Go.Proofs.YtpagenipflmlfaaGreatDoor

open Go.RowKit

set_option maxRecDepth 100000 in
set_option maxHeartbeats 400000 in
theorem clone_any (s : ByteArray) (w : World) (hlim : s.size ≤ 281474976710656) :
    Calls Tryz.prog 83 #[.string s] w fun e w' => e = .returned (.string s) ∧ Keeps (fun _ => False) w w' := by
  go_enter Tryz.func83, Tryz.ntmps83
  go_wp2_with (go_at_call 122; go_must (refine (slClone_any s _ hlim).mono ?_; rintro e w1 ⟨rfl, hk1⟩))
  go_ret
  exact ⟨rfl, Keeps.below hk1⟩

theorem chg_new3 (w : World) (o1 o2 : Obj) : Chg (((w.alloc o1).alloc o2).alloc (.cells #[.slice none 0 0] 69)) (w.heap.size + 1 + 1) [] [w.heap.size + 1 + 1] := by
  have := chg_new (w.alloc o1) o2
  simpa using this

set_option maxRecDepth 100000 in
set_option maxHeartbeats 400000 in
theorem write_none (R : Rep) (n : Int) (key val : ByteArray) (gone : Bool) (w : World) (h : StoreAt w R) (hn : look R.works n = none) :
    Calls Tryz.prog 45 #[.pointer (some ⟨R.sb, 0, none⟩), .int .i64 n, .string key, .agg #[.int .i64 0, .string val, .bool gone]] w fun e w' => e = .returned (.int .i64 1) ∧ Keeps (fun _ => False) w w' := by
  have hmf : ∀ (fn : Fn) (first cap : Array Value) (w : World), (Instr.makeFunc fn first cap).run Tryz.prog w = .ok (.func fn first cap) w := fun _ _ _ _ => rfl
  have hf := find_any R n (((w.alloc (.cells #[.int .i64 0, .string val, .bool gone] 107)).alloc (.cells #[.int .i64 0] 34)).alloc (.cells #[.slice none 0 0] 69)) (h.kept ((((Keeps.refl (fun _ => False) w).al _).al _).al _) (fun _ _ h => h))
  rw [hn] at hf
  simp only [Option.map_none, Option.getD_none] at hf
  clear hn h
  generalize R.sb = sb at *
  go_enter_defers Tryz.func45, Tryz.ntmps45
  go_wp2_with (go_at_call 47; go_must (refine hf.mono ?_; rintro e w1 ⟨rfl, rfl⟩))
  refine leaves_cons (f := 81) (args := #[.pointer (some ⟨w.heap.size + 1 + 1, 0, none⟩), .pointer (some ⟨w.heap.size + 1, 0, none⟩)]) (by simp) (by simp [go_sem]) ?_
  refine (write1_none (w.heap.size + 1 + 1) (w.heap.size + 1) 1 (by omega) _ ?_ ?_).mono ?_
  · simp [go_sem]
  · simp [go_sem]
  rintro e u' w'' ⟨rfl, rfl, hk⟩
  have hb : w''.cell? ⟨w.heap.size + 1, 0, none⟩ = some (.int .i64 1) := hk.cell (p := ⟨w.heap.size + 1, 0, none⟩) (by simp [go_sem]) (fun h => h)
  simp [Leaves, settle, results, Tryz.results45, go_sem, hb]
  exact ((((Keeps.refl _ w).al _).al _).al _).tr hk (fun _ h => h)

set_option maxRecDepth 100000 in
set_option maxHeartbeats 400000 in
theorem write_text (R : Rep) (n : Int) (x : WkR) (key val : ByteArray) (gone : Bool) (w : World) (h : StoreAt w R) (hn : look R.works n = some x) (hk : key.size ≤ maxLen) (hv : val.size ≤ maxLen) (hb : keyB key = false ∨ valB val = false) :
    Calls Tryz.prog 45 #[.pointer (some ⟨R.sb, 0, none⟩), .int .i64 n, .string key, .agg #[.int .i64 0, .string val, .bool gone]] w fun e w' => e = .returned (.int .i64 2) ∧ Keeps (fun _ => False) w w' := by
  have hmf : ∀ (fn : Fn) (first cap : Array Value) (w : World), (Instr.makeFunc fn first cap).run Tryz.prog w = .ok (.func fn first cap) w := fun _ _ _ _ => rfl
  have hnot : ∀ (x : Bool) (w : World), (Op.unary .not (.bool x)).run Tryz.prog w = .ok (.bool (!x)) w := fun _ _ => rfl
  have hf := find_any R n (((w.alloc (.cells #[.int .i64 0, .string val, .bool gone] 107)).alloc (.cells #[.int .i64 0] 34)).alloc (.cells #[.slice none 0 0] 69)) (h.kept ((((Keeps.refl (fun _ => False) w).al _).al _).al _) (fun _ _ h => h))
  rw [hn] at hf
  simp only [Option.map_some, Option.getD_some, workPtr] at hf
  have hik := fun W => isKey_any key W hk
  have hiv := fun W => isValue_any val W hv
  clear hn h hk hv
  generalize R.sb = sb at *
  cases hkb : keyB key with
  | false =>
    simp only [hkb] at hik
    clear hkb hb hiv
    have HIK : Hid (∀ W, Calls Tryz.prog 50 #[.string key] W fun e w' => e = .returned (.bool false) ∧ w' = W) := hik
    clear hik
    go_enter_defers Tryz.func45, Tryz.ntmps45
    go_wp2_with (first
      | (go_at_call 47; go_must (refine hf.mono ?_; rintro e w1 ⟨rfl, rfl⟩))
      | (go_at_call 50; go_must (refine (HIK.out _).mono ?_; rintro e w1 ⟨rfl, rfl⟩)))
    refine leaves_cons (f := 81) (args := #[.pointer (some ⟨w.heap.size + 1 + 1, 0, none⟩), .pointer (some ⟨w.heap.size + 1, 0, none⟩)]) (by simp) (by simp [go_sem]) ?_
    refine (write1_none (w.heap.size + 1 + 1) (w.heap.size + 1) 2 (by omega) _ ?_ ?_).mono ?_
    · simp [go_sem]
    · simp [go_sem]
    rintro e u' w'' ⟨rfl, rfl, hk⟩
    have hb : w''.cell? ⟨w.heap.size + 1, 0, none⟩ = some (.int .i64 2) := hk.cell (p := ⟨w.heap.size + 1, 0, none⟩) (by simp [go_sem]) (fun h => h)
    simp [Leaves, settle, results, Tryz.results45, go_sem, hb]
    exact ((((Keeps.refl _ w).al _).al _).al _).tr hk (fun _ h => h)
  | true =>
    have hvb : valB val = false := by
      rcases hb with h | h
      · rw [hkb] at h; cases h
      · exact h
    simp only [hkb] at hik
    simp only [hvb] at hiv
    clear hkb hb hvb
    have HIK : Hid (∀ W, Calls Tryz.prog 50 #[.string key] W fun e w' => e = .returned (.bool true) ∧ w' = W) := hik
    have HIV : Hid (∀ W, Calls Tryz.prog 82 #[.string val] W fun e w' => e = .returned (.bool false) ∧ w' = W) := hiv
    clear hik hiv
    go_enter_defers Tryz.func45, Tryz.ntmps45
    go_wp2_with (first
      | (go_at_call 47; go_must (refine hf.mono ?_; rintro e w1 ⟨rfl, rfl⟩))
      | (go_at_call 50; go_must (refine (HIK.out _).mono ?_; rintro e w1 ⟨rfl, rfl⟩))
      | (go_at_call 82; go_must (refine (HIV.out _).mono ?_; rintro e w1 ⟨rfl, rfl⟩)))
    refine leaves_cons (f := 81) (args := #[.pointer (some ⟨w.heap.size + 1 + 1, 0, none⟩), .pointer (some ⟨w.heap.size + 1, 0, none⟩)]) (by simp) (by simp [go_sem]) ?_
    refine (write1_none (w.heap.size + 1 + 1) (w.heap.size + 1) 2 (by omega) _ ?_ ?_).mono ?_
    · simp [go_sem]
    · simp [go_sem]
    rintro e u' w'' ⟨rfl, rfl, hk⟩
    have hb : w''.cell? ⟨w.heap.size + 1, 0, none⟩ = some (.int .i64 2) := hk.cell (p := ⟨w.heap.size + 1, 0, none⟩) (by simp [go_sem]) (fun h => h)
    simp [Leaves, settle, results, Tryz.results45, go_sem, hb]
    exact ((((Keeps.refl _ w).al _).al _).al _).tr hk (fun _ h => h)

end Go.Proofs.YtpagenipflmlfaaGreatDoor

/- Put and Delete: what is written. -/

namespace Go.Proofs.YtpagenipflmlfaaGreatDoor

open Go.RowKit

theorem put_same {α β : Type} [DecidableEq α] : ∀ {l : List (α × β)} {k : α} {v : β}, look l k = some v → put l k v = l
  | (a, x) :: r, k, v, h => by
    unfold look at h
    unfold put
    by_cases e : a = k
    · rw [if_pos e] at h ⊢
      subst e
      cases h
      rfl
    · rw [if_neg e] at h ⊢
      rw [put_same h]

theorem mem_put {α β : Type} [DecidableEq α] : ∀ {l : List (α × β)} {k : α} {v : β} {p : α × β}, (l.map (·.1)).Nodup → p ∈ put l k v → p = (k, v) ∨ (p ∈ l ∧ p.1 ≠ k)
  | [], k, v, p, _, h => by simp [put] at h; exact .inl h
  | (a, x) :: r, k, v, p, hn, h => by
    simp only [List.map_cons, List.nodup_cons] at hn
    unfold put at h
    by_cases e : a = k
    · rw [if_pos e] at h
      rcases List.mem_cons.1 h with h | h
      · exact .inl h
      · refine .inr ⟨by simp [h], fun e2 => hn.1 ?_⟩
        rw [e, ← e2]
        exact List.mem_map.2 ⟨p, h, rfl⟩
    · rw [if_neg e] at h
      rcases List.mem_cons.1 h with h | h
      · subst h
        exact .inr ⟨by simp, e⟩
      · rcases mem_put hn.2 h with h | ⟨h1, h2⟩
        · exact .inl h
        · exact .inr ⟨by simp [h1], h2⟩

theorem put_flatMap {α β γ : Type} [DecidableEq α] (f : α × β → List γ) : ∀ {l : List (α × β)} {k : α} {x v : β}, look l k = some x → f (k, v) = f (k, x) → (put l k v).flatMap f = l.flatMap f
  | (a, y) :: r, k, x, v, h, hf => by
    unfold look at h
    unfold put
    by_cases e : a = k
    · rw [if_pos e] at h ⊢
      subst e
      cases h
      simp [hf]
    · rw [if_neg e] at h ⊢
      simp [put_flatMap f h hf]

theorem flatMap_apart {α γ : Type} (f : α → List γ) : ∀ {l : List α}, (l.flatMap f).Nodup → ∀ {p q : α}, p ∈ l → q ∈ l → p ≠ q → ∀ a ∈ f p, a ∉ f q
  | [], _, p, q, hp, _, _, _, _ => by cases hp
  | x :: r, hn, p, q, hp, hq, hne, a, ha => by
    simp only [List.flatMap_cons, List.nodup_append] at hn
    obtain ⟨h1, h2, h3⟩ := hn
    rcases List.mem_cons.1 hp with rfl | hp'
    · rcases List.mem_cons.1 hq with rfl | hq'
      · exact absurd rfl hne
      · intro hb
        exact h3 a ha a (List.mem_flatMap.2 ⟨q, hq', hb⟩) rfl
    · rcases List.mem_cons.1 hq with rfl | hq'
      · intro hb
        exact h3 a hb a (List.mem_flatMap.2 ⟨p, hp', ha⟩) rfl
      · exact flatMap_apart f h2 hp' hq' hne a ha

/-- What a work has written. -/
theorem StoreAt.written {w w' : World} {R : Rep} {C : List Nat} {n : Int} {x : WkR} {key : ByteArray} {v : Ver} (h : StoreAt w R) (hn : look R.works n = some x) (hC : ∀ k ∈ C, k ∉ R.fp) (hk : Keeps (fun k => k ∈ C ∨ k = x.mb) w w')
    (hm : MapAt Value.string w' x.mb (put (x.writes.map fun q => (q.1, q.2.val)) key v.val)) : StoreAt w' { R with works := put R.works n { x with writes := put x.writes key v } } := by
  have hx := look_mem hn
  have hnd := h.nodup
  have hfw : (R.works.flatMap (fun p => [p.2.blk, p.2.mb])).Nodup := by
    simp only [Rep.fp, Rep.fpWorks, List.nodup_cons, List.nodup_append] at hnd
    exact hnd.2.1.2.1
  have hwn : (R.works.map (·.1)).Nodup := by
    have := h.works.worksMap.nodup
    simpa [List.map_map, Function.comp_def] using this
  have hxm : x.mb ∈ R.works.flatMap (fun p => [p.2.blk, p.2.mb]) := List.mem_flatMap.2 ⟨(n, x), hx, by simp⟩
  have hnx : ∀ k, k ∈ R.fp → k ≠ x.mb → ¬ (k ∈ C ∨ k = x.mb) := fun k hk1 hk2 => by
    rintro (hc | hc)
    · exact hC k hc hk1
    · exact hk2 hc
  -- x.mb is none of the others
  have hsb : R.sb ≠ x.mb := by
    simp only [Rep.fp, Rep.fpWorks, List.nodup_cons, List.mem_append, not_or] at hnd
    intro e
    exact hnd.1.1.2 (e ▸ hxm)
  have hwp : ∀ k, k ∈ R.wm.toList ++ pcOf R.pm R.cm → k ≠ x.mb := by
    intro k hk1 e
    subst e
    simp only [Rep.fp, Rep.fpWorks, List.nodup_cons, List.nodup_append] at hnd
    exact hnd.2.1.2.2 _ hk1 _ hxm rfl
  have hpp : ∀ k, k ∈ R.fpPast → k ≠ x.mb := by
    intro k hk1 e
    subst e
    simp only [Rep.fp, List.nodup_cons, List.nodup_append] at hnd
    exact hnd.2.2.2 _ (by simp only [Rep.fpWorks, List.mem_append]; exact .inr hxm) _ hk1 rfl
  have hmemW : ∀ k, k ∈ R.wm.toList ++ pcOf R.pm R.cm → k ∈ R.fp := fun k hk1 => by
    simp only [Rep.fp, Rep.fpWorks, List.mem_cons, List.mem_append] at hk1 ⊢
    exact .inr (.inl (.inl hk1))
  refine ⟨?_, ⟨?_, ?_, ?_, ?_⟩, ?_, ?_⟩
  · exact (hk.block R.sb h.lt (hnx _ (by simp [Rep.fp]) hsb)).trans h.top
  · have e : (put R.works n { x with writes := put x.writes key v }).map (fun p => (p.1, workPtr p.2)) = R.works.map (fun p => (p.1, workPtr p.2)) := by
      rw [← put_map workPtr]
      exact put_same (by rw [look_map, hn]; rfl)
    show OptMap _ _ R.wm _
    rw [e]
    exact h.works.worksMap.kept hk (fun b hb => hnx _ (hmemW b (by simp [hb])) (hwp b (by simp [hb])))
  · intro p hp
    rcases mem_put hwn hp with rfl | ⟨hp1, hp2⟩
    · obtain ⟨h1, h2⟩ := h.works.worksEach (n, x) hx
      have hbm : x.blk ≠ x.mb := by
        have hsub : [x.blk, x.mb].Sublist (R.works.flatMap (fun p => [p.2.blk, p.2.mb])) := by
          have := flatMap_sublist (fun p : Int × WkR => [p.2.blk, p.2.mb]) (List.singleton_sublist.2 hx)
          simpa using this
        have := hfw.sublist hsub
        simp only [List.nodup_cons, List.mem_singleton] at this
        exact this.1
      have hbf : x.blk ∈ R.fp := by
        simp only [Rep.fp, Rep.fpWorks, List.mem_cons, List.mem_append, List.mem_flatMap]
        exact .inr (.inl (.inr ⟨(n, x), hx, by simp⟩))
      refine ⟨(hk.block _ (Array.getElem?_eq_some_iff.1 h1).1 (hnx _ hbf hbm)).trans h1, ?_⟩
      show MapAt _ _ x.mb ((put x.writes key v).map fun q => (q.1, q.2.val))
      rw [← put_map Ver.val]
      exact hm
    · obtain ⟨h1, h2⟩ := h.works.worksEach p hp1
      have hap := flatMap_apart (fun p : Int × WkR => [p.2.blk, p.2.mb]) hfw hp1 hx (fun e => hp2 (by rw [e]))
      have hne : ∀ k, k = p.2.blk ∨ k = p.2.mb → k ≠ x.mb := fun k hk1 e => by
        have := hap k (by simpa using hk1)
        exact this (by simp [e])
      have hpf : ∀ k, k = p.2.blk ∨ k = p.2.mb → k ∈ R.fp := fun k hk1 => by
        simp only [Rep.fp, Rep.fpWorks, List.mem_cons, List.mem_append, List.mem_flatMap]
        exact .inr (.inl (.inr ⟨p, hp1, by simpa using hk1⟩))
      exact ⟨(hk.block _ (Array.getElem?_eq_some_iff.1 h1).1 (hnx _ (hpf _ (.inl rfl)) (hne _ (.inl rfl)))).trans h1, h2.kept hk (hnx _ (hpf _ (.inr rfl)) (hne _ (.inr rfl)))⟩
  · exact h.works.pinsMap.kept hk (fun b hb => hnx _ (hmemW b (by simp [pcOf, hb])) (hwp b (by simp [pcOf, hb])))
  · exact h.works.copyMap.kept hk (fun b hb => hnx _ (hmemW b (by simp [pcOf, hb])) (hwp b (by simp [pcOf, hb])))
  · exact h.past.kept hk (fun k hk' => hnx _ (List.mem_cons_of_mem _ (List.mem_append_right _ hk')) (hpp k hk'))
  · have e : Rep.fp { R with works := put R.works n { x with writes := put x.writes key v } } = R.fp := by
      simp only [Rep.fp, Rep.fpWorks, Rep.fpPast]
      rw [put_flatMap (v := { x with writes := put x.writes key v }) (fun p : Int × WkR => [p.2.blk, p.2.mb]) hn rfl]
    rw [e]
    exact hnd

theorem write_box {w w1 : World} {o1 o2 o3 o4 : Obj} (hk : Keeps (fun _ => False) ((((w.alloc o1).alloc o2).alloc o3).alloc o4) w1) : w1.heap[w.heap.size]? = some o1 :=
  box_kept (((((Keeps.refl (fun _ => False) (w.alloc o1)).al o2).al o3).al o4).tr hk (fun _ h => h)) (fun h => h)

theorem write_err {w w1 : World} {o1 o2 o3 o4 : Obj} (hk : Keeps (fun _ => False) ((((w.alloc o1).alloc o2).alloc o3).alloc o4) w1) (v : Value) : (w1.setCell ⟨w.heap.size, 1, none⟩ v).heap[w.heap.size + 1]? = some o2 := by
  rw [Below.heap_setCell _ _ _ _ (by simp)]
  have := box_kept ((((Keeps.refl (fun _ => False) ((w.alloc o1).alloc o2)).al o3).al o4).tr hk (fun _ h => h)) (fun h => h)
  simpa using this

theorem write_chg {w w1 : World} {o1 o2 o4 : Obj} (hk : Keeps (fun _ => False) ((((w.alloc o1).alloc o2).alloc (.cells #[.slice none 0 0] 69)).alloc o4) w1) (v : Value) : Chg (w1.setCell ⟨w.heap.size, 1, none⟩ v) (w.heap.size + 1 + 1) [] [w.heap.size + 1 + 1] :=
  (((chg_new3 w o1 o2).kept (Keeps.alloc (fun _ => False) _ o4) (fun _ _ h => h)).kept hk (fun _ _ h => h)).kept (Keeps.setCell _ _ _) (fun k hk e => by simp at hk; have e' : k = w.heap.size := e; omega)

theorem keep4 {S : Nat → Prop} {W W' : World} {b c : Nat} {u v x y : Value} (hk : Keeps S W W') (hb : ¬ S b) (hc : ¬ S c) (h1 : W.cell? ⟨b, 1, none⟩ = some u) (h2 : W.cell? ⟨c, 0, none⟩ = some v) (h3 : W.cell? ⟨c, 1, none⟩ = some x) (h4 : W.cell? ⟨c, 2, none⟩ = some y) :
    W'.cell? ⟨b, 1, none⟩ = some u ∧ W'.cell? ⟨c, 0, none⟩ = some v ∧ W'.cell? ⟨c, 1, none⟩ = some x ∧ W'.cell? ⟨c, 2, none⟩ = some y :=
  ⟨hk.cell (p := ⟨b, 1, none⟩) h1 hb, hk.cell (p := ⟨c, 0, none⟩) h2 hc, hk.cell (p := ⟨c, 1, none⟩) h3 hc, hk.cell (p := ⟨c, 2, none⟩) h4 hc⟩

set_option maxRecDepth 100000 in
set_option maxHeartbeats 800000 in
theorem write_ok (R : Rep) (n : Int) (x : WkR) (key val : ByteArray) (gone : Bool) (w : World) (h : StoreAt w R) (hn : look R.works n = some x) (hkb : keyB key = true) (hvb : valB val = true) (hfit : (look x.writes key).isSome = true ∨ x.writes.length < 30) (h30 : x.writes.length ≤ 30) :
    Calls Tryz.prog 45 #[.pointer (some ⟨R.sb, 0, none⟩), .int .i64 n, .string key, .agg #[.int .i64 0, .string val, .bool gone]] w fun e w' => e = .returned (.int .i64 0) ∧ StoreAt w' { R with works := put R.works n { x with writes := put x.writes key ⟨0, val, gone⟩ } } ∧ Keeps (· ∈ R.fp) w w' := by
  have hks : key.size ≤ 10 := by simp [keyB] at hkb; exact hkb.2
  have hvs : val.size ≤ 40 := by simpa [valB] using hvb
  have hmf : ∀ (fn : Fn) (first cap : Array Value) (w : World), (Instr.makeFunc fn first cap).run Tryz.prog w = .ok (.func fn first cap) w := fun _ _ _ _ => rfl
  have hnot : ∀ (x : Bool) (w : World), (Op.unary .not (.bool x)).run Tryz.prog w = .ok (.bool (!x)) w := fun _ _ => rfl
  have hW := h.kept ((((Keeps.refl (fun _ => False) w).al (.cells #[.int .i64 0, .string val, .bool gone] 107)).al (.cells #[.int .i64 0] 34)).al (.cells #[.slice none 0 0] 69)) (fun _ _ h => h)
  have hf := find_any R n _ hW
  rw [hn] at hf
  simp only [Option.map_some, Option.getD_some, workPtr] at hf
  have HIK : Hid (∀ W, Calls Tryz.prog 50 #[.string key] W fun e w' => e = .returned (.bool true) ∧ w' = W) := fun W => by have := isKey_any key W (by unfold maxLen; omega); rwa [hkb] at this
  have HIV : Hid (∀ W, Calls Tryz.prog 82 #[.string val] W fun e w' => e = .returned (.bool true) ∧ w' = W) := fun W => by have := isValue_any val W (by unfold maxLen; omega); rwa [hvb] at this
  have hx := look_mem hn
  obtain ⟨c0, c1, hM⟩ := h.works.work hx
  have hxf : x.blk ∈ R.fp ∧ x.mb ∈ R.fp := by
    constructor <;>
    · simp only [Rep.fp, Rep.fpWorks, List.mem_cons, List.mem_append, List.mem_flatMap]
      exact .inr (.inl (.inr ⟨(n, x), hx, by simp⟩))
  have hbl := fp_lt h _ hxf.1
  have hml := fp_lt h _ hxf.2
  have hbl1 : x.blk < w.heap.size + 1 := by omega
  have hbl2 : x.blk < w.heap.size + 1 + 1 := by omega
  have hbl3 : x.blk < w.heap.size + 1 + 1 + 1 := by omega
  have HST : Hid (StoreAt w R) := h
  have HN : Hid (look R.works n = some x) := hn
  have HFIT : Hid ((look x.writes key).isSome = true ∨ x.writes.length < 30) := hfit
  have hbm : x.blk ≠ x.mb := by
    have hnd := h.nodup
    simp only [Rep.fp, Rep.fpWorks, List.nodup_cons, List.nodup_append] at hnd
    have hsub : [x.blk, x.mb].Sublist (R.works.flatMap (fun p => [p.2.blk, p.2.mb])) := by
      have := flatMap_sublist (fun p : Int × WkR => [p.2.blk, p.2.mb]) (List.singleton_sublist.2 hx)
      simpa using this
    have := hnd.2.1.2.1.sublist hsub
    simp only [List.nodup_cons, List.mem_singleton] at this
    exact this.1
  have HNB : Hid (¬ (x.blk ∈ [w.heap.size + 1 + 1] ∨ x.blk = x.mb)) := by
    rintro (hc | hc)
    · simp at hc; omega
    · exact hbm hc
  have HNC : Hid (¬ (w.heap.size ∈ [w.heap.size + 1 + 1] ∨ w.heap.size = x.mb)) := by
    rintro (hc | hc)
    · simp at hc; omega
    · omega
  clear hW hn h hfit hkb hvb c0 hbm
  -- what stands at the key now
  obtain ⟨q1, q2, q3, hq⟩ : ∃ q1 q2 q3, (look (x.writes.map fun q => (q.1, q.2.val)) key).getD (.agg #[.int .i64 0, .string ByteArray.empty, .bool false]) = .agg #[.int .i64 q1, .string q2, .bool q3] := by
    rw [look_map]
    cases look x.writes key with
    | none => exact ⟨_, _, _, rfl⟩
    | some v => exact ⟨_, _, _, rfl⟩
  have HQ : Hid ((look (x.writes.map fun q => (q.1, q.2.val)) key).getD (.agg #[.int .i64 0, .string ByteArray.empty, .bool false]) = .agg #[.int .i64 q1, .string q2, .bool q3]) := hq
  have HS : Hid ((look (x.writes.map fun q => (q.1, q.2.val)) key).isSome = (look x.writes key).isSome) := by unfold Hid; rw [look_map]; simp
  have HLN : Hid ((x.writes.map fun q => (q.1, q.2.val)).length = x.writes.length) := by unfold Hid; simp
  clear hq
  generalize hln : x.writes.length = ln at *
  clear hln
  cases hag : (look x.writes key).isSome with
  | true =>
    rw [hag] at HS
    clear hag
    go_enter_defers Tryz.func45, Tryz.ntmps45
    go_wp2_with (first
      | (go_at_call 47; go_must (refine hf.mono ?_; rintro e w1 ⟨rfl, rfl⟩))
      | (go_at_call 50; go_must (refine (HIK.out _).mono ?_; rintro e w1 ⟨rfl, rfl⟩))
      | (go_at_call 82; go_must (refine (HIV.out _).mono ?_; rintro e w1 ⟨rfl, rfl⟩))
      | (at_lookup; go_must (refine wpList_lookup_ok_at _ rfl _ _ 102 rfl 9 107 strKeyOk Tryz.underlying102 Tryz.underlying9 _ (Tryz.zeroVersion _) x.mb rfl key rfl _ (hM.kept ((((Keeps.refl (fun _ => False) w).al _).al _).al _) (fun h => h)) ?_; rw [HQ.out, HS.out]))
      | (go_at_call 83; go_must (refine (clone_any val _ (by omega)).mono ?_; rintro e w1 ⟨rfl, hk1⟩; obtain ⟨hx0, hx1, hx2, hy0, hy1, hy2⟩ := three_cells (write_box hk1))))
    have K5 : Keeps (fun _ => False) w (w1.setCell ⟨w.heap.size, 1, none⟩ (.string val)) := ((((((Keeps.refl (fun _ => False) w).al _).al _).al _).al _).tr hk1 (fun _ h => h)).st (.inl (Nat.le_refl _)) _
    have B5 := heap_setCell_same (i := 1) (write_box hk1) (.string val)
    have E5 := write_err hk1 (.string val)
    have C5 := write_chg hk1 (.string val)
    have z5 : w.heap.size + 4 ≤ (w1.setCell ⟨w.heap.size, 1, none⟩ (.string val)).heap.size := by have := hk1.size; simp at this; simp; omega
    generalize w1.setCell ⟨w.heap.size, 1, none⟩ (.string val) = W5 at K5 B5 E5 C5 z5
    have p0 : W5.cell? ⟨w.heap.size, 0, none⟩ = some (.int .i64 0) := cell_of_heap B5 0
    have p1 : W5.cell? ⟨w.heap.size, 1, none⟩ = some (.string val) := cell_of_heap B5 1
    have p2 : W5.cell? ⟨w.heap.size, 2, none⟩ = some (.bool gone) := cell_of_heap B5 2
    have pb : W5.cell? ⟨x.blk, 1, none⟩ = some (.map (some x.mb)) := K5.cell (p := ⟨x.blk, 1, none⟩) c1 (fun h => h)
    have HK5 : Hid (Keeps (fun _ => False) w W5) := K5
    have HB5 : Hid (W5.heap[w.heap.size]? = _) := B5
    have HE5 : Hid (W5.heap[w.heap.size + 1]? = _) := E5
    have HC5 : Hid (Chg W5 (w.heap.size + 1 + 1) [] [w.heap.size + 1 + 1]) := C5
    have hEV := fun W (hk : Keeps (fun _ => False) W5 W) => enter_version (w.heap.size + 1 + 1) [] [w.heap.size + 1 + 1] x.mb key _ q1 0 q2 val q3 gone W (HC5.out.kept hk (fun _ _ h => h)) ((hM.kept HK5.out (fun h => h)).kept hk (fun h => h)) HQ.out (by simp; omega) (by simp)
    clear K5 B5 E5 C5 hx0 hx1 hx2 hy0 hy1 hy2 hk1
    go_region_held3 (fun W => W.cell? ⟨x.blk, 1, none⟩ = some (.map (some x.mb)) ∧ W.cell? ⟨w.heap.size, 0, none⟩ = some (.int .i64 0) ∧ W.cell? ⟨w.heap.size, 1, none⟩ = some (.string val) ∧ W.cell? ⟨w.heap.size, 2, none⟩ = some (.bool gone)) (go_keep) (first
      | (go_at_call 83; refine (clone_any key _ (by omega)).mono ?_; rintro e w6 ⟨rfl, hk6⟩; obtain ⟨r0, r1, r2, r3⟩ := keep4 ((Keeps.drew (fun _ => False) W5).tr hk6 (fun _ h => h)) (fun h => h) (fun h => h) pb p0 p1 p2)
      | (go_at_call 84; refine (hEV _ ((Keeps.drew (fun _ => False) W5).tr hk6 (fun _ h => h))).mono ?_; rintro e w7 ⟨rfl, fs7, C7, hf7, hC7, hk7, hC7', hm7⟩; obtain ⟨t0, t1, t2, t3⟩ := keep4 hk7 HNB.out HNC.out r0 r1 r2 r3))
    have HS7 : Hid (StoreAt w7 { R with works := put R.works n { x with writes := put x.writes key ⟨0, val, gone⟩ } }) := StoreAt.written (v := ⟨0, val, gone⟩) ((HST.out.kept HK5.out (fun _ _ h => h)).kept ((Keeps.drew (fun _ => False) W5).tr hk6 (fun _ h => h)) (fun _ _ h => h)) HN.out (fun k hk hf => by have := fp_lt HST.out k hf; simp at hk; omega) hk7 hm7
    have hE7 : w7.heap[w.heap.size + 1]? = some (.cells #[.int .i64 0] 34 (0, 0)) := by
      rw [hk7.block (w.heap.size + 1) (by have := hk6.size; simp at this; omega) (by rintro (hc | hc); (simp at hc); omega)]
      rw [hk6.block (w.heap.size + 1) (by simp; omega) (fun h => h)]
      exact HE5.out
    have y0 : w7.cell? ⟨w.heap.size + 1, 0, none⟩ = some (.int .i64 0) := cell_of_heap hE7 0
    have y1 : w7.frozen? ⟨w.heap.size + 1, 0, none⟩ = false := frozen_of_heap hE7 0
    have HE7 : Hid (w7.heap[w.heap.size + 1]? = some (.cells #[.int .i64 0] 34 (0, 0))) := hE7
    have HK7 : Hid (Keeps (· ∈ R.fp) w w7) := (((HK5.out.mono (fun _ _ h => h.elim)).tr ((Keeps.drew (fun _ => False) W5).tr hk6 (fun _ h => h)) (fun _ h => h.elim))).trans hk7 (fun k hk h => by
      rcases h with h | rfl
      · simp at h; omega
      · exact hxf.2)
    clear hE7 hk7 hm7 hEV r0 r1 r2 r3 t0 t1 t2 t3 p0 p1 p2 pb
    go_wp2
    refine leaves_cons (f := 81) (args := #[.pointer (some ⟨w.heap.size + 1 + 1, 0, none⟩), .pointer (some ⟨w.heap.size + 1, 0, none⟩)]) (by simp) (by simp [go_sem]) ?_
    have hE8 := heap_setCell_same (i := 0) HE7.out (.int .i64 0)
    refine (write1_ok (w.heap.size + 1 + 1) (w.heap.size + 1) _ ?_).mono ?_
    · exact cell_of_heap hE8 0
    rintro e u' w'' ⟨rfl, rfl, rfl⟩
    have hpost : StoreAt (w7.setCell ⟨w.heap.size + 1, 0, none⟩ (.int .i64 0)) { R with works := put R.works n { x with writes := put x.writes key ⟨0, val, gone⟩ } } ∧ Keeps (· ∈ R.fp) w (w7.setCell ⟨w.heap.size + 1, 0, none⟩ (.int .i64 0)) := by
      refine ⟨HS7.out.kept (Keeps.setCell _ _ _) (fun k hk e => ?_), HK7.out.st (.inl (Nat.le_succ _)) _⟩
      have e' : k = w.heap.size + 1 := e
      have e2 : Rep.fp { R with works := put R.works n { x with writes := put x.writes key ⟨0, val, gone⟩ } } = R.fp := by
        simp only [Rep.fp, Rep.fpWorks, Rep.fpPast]
        rw [put_flatMap (v := { x with writes := put x.writes key ⟨0, val, gone⟩ }) (fun p : Int × WkR => [p.2.blk, p.2.mb]) HN.out rfl]
      rw [e2] at hk
      have := fp_lt HST.out k hk
      omega
    have hb := cell_of_heap hE8 0
    generalize w7.setCell ⟨w.heap.size + 1, 0, none⟩ (.int .i64 0) = W3 at hpost hb
    simp at hb
    simp [Leaves, settle, results, Tryz.results45, go_sem, hb]
    exact hpost
  | false =>
    have hl30 : ln < 30 := by
      rcases HFIT.out with h | h
      · rw [hag] at h; cases h
      · exact h
    rw [hag] at HS
    clear hag
    have hlen : ∀ o1 o2 o3 o4 ty, (Builtin.len_ #[102] ty #[.map (some x.mb)]).run Tryz.prog ((((w.alloc o1).alloc o2).alloc o3).alloc o4) = .ok (.int .i64 ln) ((((w.alloc o1).alloc o2).alloc o3).alloc o4) := fun o1 o2 o3 o4 ty => by
      have := (hM.kept (((((Keeps.refl (fun _ => False) w).al o1).al o2).al o3).al o4) (fun h => h)).length (P := Tryz.prog) Tryz.underlying102 ty
      rw [HLN.out] at this
      exact this
    go_enter_defers Tryz.func45, Tryz.ntmps45
    go_wp2_with (first
      | (go_at_call 47; go_must (refine hf.mono ?_; rintro e w1 ⟨rfl, rfl⟩))
      | (go_at_call 50; go_must (refine (HIK.out _).mono ?_; rintro e w1 ⟨rfl, rfl⟩))
      | (go_at_call 82; go_must (refine (HIV.out _).mono ?_; rintro e w1 ⟨rfl, rfl⟩))
      | (at_lookup; go_must (refine wpList_lookup_ok_at _ rfl _ _ 102 rfl 9 107 strKeyOk Tryz.underlying102 Tryz.underlying9 _ (Tryz.zeroVersion _) x.mb rfl key rfl _ (hM.kept ((((Keeps.refl (fun _ => False) w).al _).al _).al _) (fun h => h)) ?_; rw [HQ.out, HS.out]))
      | (go_at_call 83; go_must (refine (clone_any val _ (by omega)).mono ?_; rintro e w1 ⟨rfl, hk1⟩; obtain ⟨hx0, hx1, hx2, hy0, hy1, hy2⟩ := three_cells (write_box hk1))))
    have K5 : Keeps (fun _ => False) w (w1.setCell ⟨w.heap.size, 1, none⟩ (.string val)) := ((((((Keeps.refl (fun _ => False) w).al _).al _).al _).al _).tr hk1 (fun _ h => h)).st (.inl (Nat.le_refl _)) _
    have B5 := heap_setCell_same (i := 1) (write_box hk1) (.string val)
    have E5 := write_err hk1 (.string val)
    have C5 := write_chg hk1 (.string val)
    have z5 : w.heap.size + 4 ≤ (w1.setCell ⟨w.heap.size, 1, none⟩ (.string val)).heap.size := by have := hk1.size; simp at this; simp; omega
    generalize w1.setCell ⟨w.heap.size, 1, none⟩ (.string val) = W5 at K5 B5 E5 C5 z5
    have p0 : W5.cell? ⟨w.heap.size, 0, none⟩ = some (.int .i64 0) := cell_of_heap B5 0
    have p1 : W5.cell? ⟨w.heap.size, 1, none⟩ = some (.string val) := cell_of_heap B5 1
    have p2 : W5.cell? ⟨w.heap.size, 2, none⟩ = some (.bool gone) := cell_of_heap B5 2
    have pb : W5.cell? ⟨x.blk, 1, none⟩ = some (.map (some x.mb)) := K5.cell (p := ⟨x.blk, 1, none⟩) c1 (fun h => h)
    have HK5 : Hid (Keeps (fun _ => False) w W5) := K5
    have HB5 : Hid (W5.heap[w.heap.size]? = _) := B5
    have HE5 : Hid (W5.heap[w.heap.size + 1]? = _) := E5
    have HC5 : Hid (Chg W5 (w.heap.size + 1 + 1) [] [w.heap.size + 1 + 1]) := C5
    have hEV := fun W (hk : Keeps (fun _ => False) W5 W) => enter_version (w.heap.size + 1 + 1) [] [w.heap.size + 1 + 1] x.mb key _ q1 0 q2 val q3 gone W (HC5.out.kept hk (fun _ _ h => h)) ((hM.kept HK5.out (fun h => h)).kept hk (fun h => h)) HQ.out (by simp; omega) (by simp)
    clear K5 B5 E5 C5 hx0 hx1 hx2 hy0 hy1 hy2 hk1
    go_region_held3 (fun W => W.cell? ⟨x.blk, 1, none⟩ = some (.map (some x.mb)) ∧ W.cell? ⟨w.heap.size, 0, none⟩ = some (.int .i64 0) ∧ W.cell? ⟨w.heap.size, 1, none⟩ = some (.string val) ∧ W.cell? ⟨w.heap.size, 2, none⟩ = some (.bool gone)) (go_keep) (first
      | (go_at_call 83; refine (clone_any key _ (by omega)).mono ?_; rintro e w6 ⟨rfl, hk6⟩; obtain ⟨r0, r1, r2, r3⟩ := keep4 ((Keeps.drew (fun _ => False) W5).tr hk6 (fun _ h => h)) (fun h => h) (fun h => h) pb p0 p1 p2)
      | (go_at_call 84; refine (hEV _ ((Keeps.drew (fun _ => False) W5).tr hk6 (fun _ h => h))).mono ?_; rintro e w7 ⟨rfl, fs7, C7, hf7, hC7, hk7, hC7', hm7⟩; obtain ⟨t0, t1, t2, t3⟩ := keep4 hk7 HNB.out HNC.out r0 r1 r2 r3))
    have HS7 : Hid (StoreAt w7 { R with works := put R.works n { x with writes := put x.writes key ⟨0, val, gone⟩ } }) := StoreAt.written (v := ⟨0, val, gone⟩) ((HST.out.kept HK5.out (fun _ _ h => h)).kept ((Keeps.drew (fun _ => False) W5).tr hk6 (fun _ h => h)) (fun _ _ h => h)) HN.out (fun k hk hf => by have := fp_lt HST.out k hf; simp at hk; omega) hk7 hm7
    have hE7 : w7.heap[w.heap.size + 1]? = some (.cells #[.int .i64 0] 34 (0, 0)) := by
      rw [hk7.block (w.heap.size + 1) (by have := hk6.size; simp at this; omega) (by rintro (hc | hc); (simp at hc); omega)]
      rw [hk6.block (w.heap.size + 1) (by simp; omega) (fun h => h)]
      exact HE5.out
    have y0 : w7.cell? ⟨w.heap.size + 1, 0, none⟩ = some (.int .i64 0) := cell_of_heap hE7 0
    have y1 : w7.frozen? ⟨w.heap.size + 1, 0, none⟩ = false := frozen_of_heap hE7 0
    have HE7 : Hid (w7.heap[w.heap.size + 1]? = some (.cells #[.int .i64 0] 34 (0, 0))) := hE7
    have HK7 : Hid (Keeps (· ∈ R.fp) w w7) := (((HK5.out.mono (fun _ _ h => h.elim)).tr ((Keeps.drew (fun _ => False) W5).tr hk6 (fun _ h => h)) (fun _ h => h.elim))).trans hk7 (fun k hk h => by
      rcases h with h | rfl
      · simp at h; omega
      · exact hxf.2)
    clear hE7 hk7 hm7 hEV r0 r1 r2 r3 t0 t1 t2 t3 p0 p1 p2 pb
    go_wp2
    refine leaves_cons (f := 81) (args := #[.pointer (some ⟨w.heap.size + 1 + 1, 0, none⟩), .pointer (some ⟨w.heap.size + 1, 0, none⟩)]) (by simp) (by simp [go_sem]) ?_
    have hE8 := heap_setCell_same (i := 0) HE7.out (.int .i64 0)
    refine (write1_ok (w.heap.size + 1 + 1) (w.heap.size + 1) _ ?_).mono ?_
    · exact cell_of_heap hE8 0
    rintro e u' w'' ⟨rfl, rfl, rfl⟩
    have hpost : StoreAt (w7.setCell ⟨w.heap.size + 1, 0, none⟩ (.int .i64 0)) { R with works := put R.works n { x with writes := put x.writes key ⟨0, val, gone⟩ } } ∧ Keeps (· ∈ R.fp) w (w7.setCell ⟨w.heap.size + 1, 0, none⟩ (.int .i64 0)) := by
      refine ⟨HS7.out.kept (Keeps.setCell _ _ _) (fun k hk e => ?_), HK7.out.st (.inl (Nat.le_succ _)) _⟩
      have e' : k = w.heap.size + 1 := e
      have e2 : Rep.fp { R with works := put R.works n { x with writes := put x.writes key ⟨0, val, gone⟩ } } = R.fp := by
        simp only [Rep.fp, Rep.fpWorks, Rep.fpPast]
        rw [put_flatMap (v := { x with writes := put x.writes key ⟨0, val, gone⟩ }) (fun p : Int × WkR => [p.2.blk, p.2.mb]) HN.out rfl]
      rw [e2] at hk
      have := fp_lt HST.out k hk
      omega
    have hb := cell_of_heap hE8 0
    generalize w7.setCell ⟨w.heap.size + 1, 0, none⟩ (.int .i64 0) = W3 at hpost hb
    simp at hb
    simp [Leaves, settle, results, Tryz.results45, go_sem, hb]
    exact hpost

end Go.Proofs.YtpagenipflmlfaaGreatDoor

/- Among strings in rising order: the library's binary search, and its Insert. -/

namespace Go.Proofs.YtpagenipflmlfaaGreatDoor

open Go.RowKit

/-- keys in rising order of their bytes -/
def ltK (a b : ByteArray) : Bool := Op.bytesLess a.toList b.toList

theorem bytesLess_is : ∀ (x y : List UInt8), Op.bytesLess x y = decide (x < y)
  | [], [] => by simp [Op.bytesLess]
  | _ :: _, [] => by simp [Op.bytesLess]
  | [], _ :: _ => by simp [Op.bytesLess]
  | a :: x, b :: y => by
    rw [Op.bytesLess, bytesLess_is x y]
    simp only [List.cons_lt_cons_iff]
    by_cases h1 : a < b <;> by_cases h2 : a = b <;> by_cases h3 : x < y <;> simp [h1, h2, h3]

theorem ltK_iff (a b : ByteArray) : ltK a b = true ↔ a.data.toList < b.data.toList := by
  unfold ltK
  rw [bytesLess_is, ByteArray.toList_eq, ByteArray.toList_eq]
  simp

theorem data_inj {a b : ByteArray} (h : a.data.toList = b.data.toList) : a = b := by
  apply ByteArray.ext
  exact Array.toList_inj.1 h

theorem ltK_irrefl (a : ByteArray) : ltK a a = false := by
  rw [Bool.eq_false_iff]
  intro h
  rw [ltK_iff] at h
  exact List.lt_irrefl _ h

theorem ltK_trans {a b c : ByteArray} (h1 : ltK a b = true) (h2 : ltK b c = true) : ltK a c = true := by
  rw [ltK_iff] at *
  exact List.lt_trans h1 h2

theorem ltK_total {a b : ByteArray} (h1 : ltK a b = false) (h2 : ltK b a = false) : a = b := by
  rw [Bool.eq_false_iff] at h1 h2
  rw [Ne, ltK_iff] at h1 h2
  exact data_inj (List.le_antisymm (List.not_lt.1 h2) (List.not_lt.1 h1))

/-- how many keys are below x -/
def below (ks : List ByteArray) (x : ByteArray) : Nat := (ks.takeWhile (fun k => ltK k x)).length

def Rises (ks : List ByteArray) : Prop := ks.Pairwise (fun a b => ltK a b = true)

theorem below_le (ks : List ByteArray) (x : ByteArray) : below ks x ≤ ks.length := (List.takeWhile_sublist _).length_le

theorem below_lt : ∀ {ks : List ByteArray} {x : ByteArray} {j : Nat} (hj : j < ks.length), j < below ks x → ltK ks[j] x = true
  | [], x, j, hj, _ => by simp at hj
  | k :: ks, x, j, hj, h => by
    unfold below at h
    rw [List.takeWhile_cons] at h
    split at h
    · rename_i hk
      match j with
      | 0 => exact hk
      | j + 1 =>
        simp only [List.getElem_cons_succ]
        exact below_lt (by simpa using hj) (by unfold below; simpa using h)
    · simp at h

theorem below_ge : ∀ {ks : List ByteArray} {x : ByteArray}, Rises ks → ∀ {j : Nat} (hj : j < ks.length), below ks x ≤ j → ltK ks[j] x = false
  | [], x, _, j, hj, _ => by simp at hj
  | k :: ks, x, hr, j, hj, h => by
    obtain ⟨h1, h2⟩ := List.pairwise_cons.1 hr
    unfold below at h
    rw [List.takeWhile_cons] at h
    split at h
    · match j with
      | 0 => simp at h
      | j + 1 =>
        simp only [List.getElem_cons_succ]
        exact below_ge h2 (by simpa using hj) (by unfold below; simpa using h)
    · rename_i hk
      have hk' : ltK k x = false := by simpa using hk
      match j with
      | 0 => exact hk'
      | j + 1 =>
        simp only [List.getElem_cons_succ]
        have hkj : ltK k (ks[j]'(by simpa using hj)) = true := h1 _ (List.getElem_mem _)
        rw [Bool.eq_false_iff]
        intro hc
        rw [ltK_trans hkj hc] at hk'
        cases hk'

theorem below_mem {ks : List ByteArray} {x : ByteArray} (hr : Rises ks) : (∃ h : below ks x < ks.length, ks[below ks x] = x) ↔ x ∈ ks := by
  constructor
  · rintro ⟨h, e⟩
    rw [← e]
    exact List.getElem_mem _
  · intro hx
    obtain ⟨j, hj, rfl⟩ := List.getElem_of_mem hx
    have h1 : below ks ks[j] = j := by
      rcases Nat.lt_trichotomy (below ks ks[j]) j with h | h | h
      · have h2 := below_ge hr (x := ks[j]) (j := below ks ks[j]) (by omega) (Nat.le_refl _)
        have h3 := List.pairwise_iff_getElem.1 hr (below ks ks[j]) j (by omega) hj h
        rw [h3] at h2
        cases h2
      · exact h
      · have := below_lt hj h
        rw [ltK_irrefl] at this
        cases this
    exact ⟨by rw [h1]; exact hj, by simp only [h1]⟩

/-- is it one of them? -/
def memB (ks : List ByteArray) (x : ByteArray) : Bool := ks.any (fun k => decide (k = x))

theorem memB_iff (ks : List ByteArray) (x : ByteArray) : memB ks x = true ↔ x ∈ ks := by
  unfold memB
  rw [List.any_eq_true]
  constructor
  · rintro ⟨k, hk, e⟩
    have e' : k = x := by simpa using e
    exact e' ▸ hk
  · intro h
    exact ⟨x, h, by simp⟩

/-- slices.BinarySearch among keys in rising order. -/
theorem search_keys (v : Value) (ks : List ByteArray) (x : ByteArray) (w : World) (h : Row w 9 1 v ks.length (ks.map Value.string)) (hr : Rises ks) (hl : ks.length < 1000000000000000) :
    Calls Tryz.prog 92 #[v, .string x] w fun e w' => e = .returned (.tuple #[.int .i64 (below ks x : Nat), .bool (memB ks x)]) ∧ Keeps (fun _ => False) w w' := by
  rcases h.shape with ⟨rfl, h0⟩ | ⟨g, cap, rfl, hcap1, hcap2⟩
  · obtain rfl : ks = [] := List.eq_nil_of_length_eq_zero h0
    refine (slSearch_empty none 0 x w).mono ?_
    rintro e w' ⟨rfl, rfl⟩
    exact ⟨by simp [below, memB], Keeps.refl _ _⟩
  · have hc : ∀ j, j < ks.length → w.cell? ⟨g, 0 + j, none⟩ = some (.string (ks.getD j x)) := fun j hj => by
      rw [Nat.zero_add, h.cellAt j (by omega)]
      simp [hj]
    refine (slSearch_any g 0 ks.length cap (fun j => ks.getD j x) x w (by omega) hc).mono ?_
    have hb : Lib.bsGo (fun t => Op.bytesLess (ks.getD t x).toList x.toList) ks.length 0 ks.length = below ks x := by
      have hble := below_le ks x
      refine Lib.bsGo_spec _ (below ks x) (fun t ht => ?_) (fun t ht => ?_) ks.length 0 ks.length (by omega) (Nat.zero_le _) hble
      · have htl : t < ks.length := by omega
        have := below_lt htl ht
        simp only [List.getD_eq_getElem?_getD, List.getElem?_eq_getElem htl, Option.getD_some]
        exact this
      · by_cases htl : t < ks.length
        · have := below_ge hr htl ht
          simp only [List.getD_eq_getElem?_getD, List.getElem?_eq_getElem htl, Option.getD_some]
          exact this
        · simp only [List.getD_eq_getElem?_getD, List.getElem?_eq_none (Nat.le_of_not_lt htl), Option.getD_none]
          exact ltK_irrefl x
    rintro e w' ⟨rfl, q, rfl⟩
    rw [hb]
    refine ⟨?_, ?_⟩
    · have hd : decide (below ks x < ks.length ∧ ks.getD (below ks x) x = x) = memB ks x := by
        rw [Bool.eq_iff_iff]
        simp only [decide_eq_true_eq]
        rw [memB_iff, ← below_mem hr]
        constructor
        · rintro ⟨h1, h2⟩
          refine ⟨h1, ?_⟩
          simpa [h1] using h2
        · rintro ⟨h1, h2⟩
          refine ⟨h1, ?_⟩
          simpa [h1] using h2
      rw [hd]
    · exact ⟨rfl, rfl, rfl, Nat.le_refl _, fun _ _ _ => rfl⟩

end Go.Proofs.YtpagenipflmlfaaGreatDoor
