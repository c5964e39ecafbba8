import Derived.Test.YtpagenipflmlfaaGreatDoorM02
import Derived.Deep.RegionWith
import Derived.Deep.QuietTactic
import Derived.BigQuiet
import Derived.Deep.RegionHeld3

/- Last, see, Get. -/

namespace Go.Proofs.YtpagenipflmlfaaGreatDoor

open Go.RowKit

/-- the last state that has put or deleted a key -/
def lastOf (vs : List Ver) : Int := (vs.getLast?.map Ver.state).getD 0

set_option maxRecDepth 100000 in
set_option maxHeartbeats 400000 in
theorem last_core (pb : Nat) (key : ByteArray) (vm : Option Nat) (l : List (ByteArray × Value)) (sl : Value) (vs : List Ver) (w : World) (hc : w.cell? ⟨pb, 8, none⟩ = some (.map vm)) (hm : OptMap Value.string w vm l) (hsl : (look l key).getD (.slice none 0 0) = sl)
    (hr : Row w 107 3 sl vs.length (vs.flatMap Ver.cells)) (hl : vs.length ≤ 1000000000000) :
    Calls Tryz.prog 85 #[.pointer (some ⟨pb, 7, none⟩), .string key] w fun e w' => e = .returned (.int .i64 (lastOf vs)) ∧ w' = w := by
  have HSL : Hid ((look l key).getD (.slice none 0 0) = sl) := hsl
  clear hsl
  rcases hr.shape with ⟨rfl, h0⟩ | ⟨g, cap, rfl, hcap1, hcap2⟩
  · obtain rfl : vs = [] := List.eq_nil_of_length_eq_zero h0
    clear hr h0
    go_enter Tryz.func85, Tryz.ntmps85
    go_wp2_with (at_lookup; go_must (refine wpList_lookup_opt _ rfl _ _ 61 rfl 9 114 strKeyOk Tryz.underlying61 Tryz.underlying9 _ (Tryz.zeroVersions _) vm rfl key rfl l hm ?_; rw [HSL.out]))
    go_ret
    exact ⟨rfl, rfl⟩
  · rcases Nat.eq_zero_or_pos vs.length with hz | hz
    · obtain rfl : vs = [] := List.eq_nil_of_length_eq_zero hz
      clear hr hz
      go_enter Tryz.func85, Tryz.ntmps85
      go_wp2_with (at_lookup; go_must (refine wpList_lookup_opt _ rfl _ _ 61 rfl 9 114 strKeyOk Tryz.underlying61 Tryz.underlying9 _ (Tryz.zeroVersions _) vm rfl key rfl l hm ?_; rw [HSL.out]))
      go_ret
      exact ⟨rfl, rfl⟩
    · obtain ⟨m, hm1⟩ : ∃ m, vs.length = m + 1 := ⟨vs.length - 1, by omega⟩
      have hmv : m < vs.length := by omega
      have HL : Hid (lastOf vs = vs[m].state) := by unfold Hid lastOf; rw [List.getLast?_eq_getElem?, hm1]; simp [hmv]
      obtain ⟨hv0, -, -⟩ := hr.ver m hmv
      have hcap : m + 1 ≤ cap := by omega
      have hl' : m + 1 ≤ 1000000000000 := by omega
      rw [hm1] at HSL
      rw [HL.out]
      generalize vs[m].state = st at hv0
      clear hr hl hz hcap1 HL hmv hm1
      go_enter Tryz.func85, Tryz.ntmps85
      go_wp2_with (at_lookup; go_must (refine wpList_lookup_opt _ rfl _ _ 61 rfl 9 114 strKeyOk Tryz.underlying61 Tryz.underlying9 _ (Tryz.zeroVersions _) vm rfl key rfl l hm ?_; rw [HSL.out]))
      go_ret
      exact ⟨rfl, rfl⟩

/-- what a work sees under a key: what it has written, else the version of the state at which it began -/
def seeVer (writes : List (ByteArray × Ver)) (vs : List Ver) (began : Int) (key : ByteArray) : Option Ver :=
  match look writes key with
  | some v => some v
  | none => atVer vs began

/-- does it stand there? -/
def standsB : Option Ver → Bool
  | some v => !v.gone
  | none => false

/-- An open work's cells. -/
theorem WorksAt.work {w : World} {R : Rep} (h : WorksAt w R) {n : Int} {x : WkR} (hx : (n, x) ∈ R.works) :
    w.cell? ⟨x.blk, 0, none⟩ = some (.int .i64 x.began) ∧ w.cell? ⟨x.blk, 1, none⟩ = some (.map (some x.mb)) ∧ MapAt Value.string w x.mb (x.writes.map fun q => (q.1, q.2.val)) := by
  obtain ⟨h1, h2⟩ := h.worksEach (n, x) hx
  exact ⟨cell_of_heap h1 0, cell_of_heap h1 1, h2⟩

set_option maxRecDepth 100000 in
set_option maxHeartbeats 400000 in
theorem see_mine (sb wb mb : Nat) (key : ByteArray) (l : List (ByteArray × Value)) (v : Ver) (w : World) (hc1 : w.cell? ⟨wb, 1, none⟩ = some (.map (some mb))) (hm : MapAt Value.string w mb l) (hv : look l key = some v.val) :
    Calls Tryz.prog 51 #[.pointer (some ⟨sb, 0, none⟩), .pointer (some ⟨wb, 0, none⟩), .string key] w fun e w' => e = .returned (.tuple #[.string v.value, .bool (!v.gone)]) ∧ Keeps (fun _ => False) w w' := by
  have HV : Hid (look l key = some v.val) := hv
  clear hv
  have hnot : ∀ (x : Bool) (w : World), (Op.unary .not (.bool x)).run Tryz.prog w = .ok (.bool (!x)) w := fun _ _ => rfl
  go_enter Tryz.func51, Tryz.ntmps51
  go_wp2_with (at_lookup; go_must (refine wpList_lookup_ok_at _ rfl _ _ 102 rfl 9 107 strKeyOk Tryz.underlying102 Tryz.underlying9 _ (Tryz.zeroVersion _) mb rfl key rfl l hm ?_; rw [HV.out]; simp only [Option.getD_some, Option.isSome_some, Ver.val]))
  go_region
  go_wp2
  go_ret2
  exact ⟨rfl, ((Keeps.refl _ w).al _).dr⟩

set_option maxRecDepth 100000 in
set_option maxHeartbeats 800000 in
theorem see_past (sb wb mb : Nat) (key : ByteArray) (l : List (ByteArray × Value)) (began : Int) (vm : Option Nat) (lp : List (ByteArray × Value)) (sl : Value) (vs : List Ver) (w : World) (hc0 : w.cell? ⟨wb, 0, none⟩ = some (.int .i64 began)) (hc1 : w.cell? ⟨wb, 1, none⟩ = some (.map (some mb))) (hm : MapAt Value.string w mb l) (hv : look l key = none)
    (hc : w.cell? ⟨sb, 8, none⟩ = some (.map vm)) (hmp : OptMap Value.string w vm lp) (hsl : (look lp key).getD (.slice none 0 0) = sl) (hr : Row w 107 3 sl vs.length (vs.flatMap Ver.cells)) (hs : Rising vs) (hl : vs.length ≤ 1000000000000) :
    Calls Tryz.prog 51 #[.pointer (some ⟨sb, 0, none⟩), .pointer (some ⟨wb, 0, none⟩), .string key] w fun e w' => e = .returned (.tuple #[.string ((atVer vs began).getD Ver.zero).value, .bool (standsB (atVer vs began))]) ∧ Keeps (fun _ => False) w w' := by
  have HV : Hid (look l key = none) := hv
  have HSL : Hid ((look lp key).getD (.slice none 0 0) = sl) := hsl
  have hlt : wb < w.heap.size := World.block_lt_of_cell? _ _ hc0
  have hlt2 : sb < w.heap.size := World.block_lt_of_cell? _ _ hc
  clear hv hsl
  have hnot : ∀ (x : Bool) (w : World), (Op.unary .not (.bool x)).run Tryz.prog w = .ok (.bool (!x)) w := fun _ _ => rfl
  have hat := fun W (hk : Keeps (fun _ => False) w W) => at_core sb key began vm lp sl vs W (hk.cell (p := ⟨sb, 8, none⟩) hc (fun h => h)) (hmp.kept hk (fun _ _ h => h)) HSL.out (hr.kept hk (fun _ _ h => h)) hs hl
  have HAT : Hid (∀ W, Keeps (fun _ => False) w W → Calls Tryz.prog 86 #[.pointer (some ⟨sb, 7, none⟩), .string key, .int .i64 began] W fun e w' => e = .returned (.tuple #[((atVer vs began).getD Ver.zero).val, .bool (atVer vs began).isSome]) ∧ Keeps (fun _ => False) W w') := hat
  clear hat hr hs hl hmp
  cases hov : atVer vs began with
  | none =>
    rw [hov] at HAT
    simp only [Option.getD_none, Option.isSome_none, Ver.val, Ver.zero, standsB] at HAT ⊢
    clear hov
    go_enter Tryz.func51, Tryz.ntmps51
    go_wp2_with (at_lookup; go_must (refine wpList_lookup_ok_at _ rfl _ _ 102 rfl 9 107 strKeyOk Tryz.underlying102 Tryz.underlying9 _ (Tryz.zeroVersion _) mb rfl key rfl l hm ?_; rw [HV.out]; simp only [Option.getD_none, Option.isSome_none]))
    go_region_with (go_at_call 86; go_must (refine (HAT.out _ (((Keeps.refl _ w).al _).dr)).mono ?_; rintro e w1 ⟨rfl, hk1⟩; obtain ⟨hx0, hx1, hx2, hy0, hy1, hy2⟩ := three_cells (box_kept ((Keeps.drew (fun _ => False) _).tr hk1 (fun _ h => h)) (fun h => h))))
    simp only [List.getElem_toArray, List.getElem_cons_succ, List.getElem_cons_zero, Act.put, List.setIfInBounds_toArray, List.set_cons_succ, List.set_cons_zero]
    go_wp2
    go_region
    go_wp2
    go_ret2
    refine ⟨rfl, ?_⟩
    exact ((((((Keeps.refl _ w).al _).dr).tr hk1 (fun _ h => h)).st (.inl (Nat.le_refl _)) _ |>.st (.inl (Nat.le_refl _)) _).st (.inl (Nat.le_refl _)) _).dr
  | some v =>
    rw [hov] at HAT
    simp only [Option.getD_some, Option.isSome_some, Ver.val, standsB] at HAT ⊢
    clear hov
    go_enter Tryz.func51, Tryz.ntmps51
    go_wp2_with (at_lookup; go_must (refine wpList_lookup_ok_at _ rfl _ _ 102 rfl 9 107 strKeyOk Tryz.underlying102 Tryz.underlying9 _ (Tryz.zeroVersion _) mb rfl key rfl l hm ?_; rw [HV.out]; simp only [Option.getD_none, Option.isSome_none]))
    go_region_with (go_at_call 86; go_must (refine (HAT.out _ (((Keeps.refl _ w).al _).dr)).mono ?_; rintro e w1 ⟨rfl, hk1⟩; obtain ⟨hx0, hx1, hx2, hy0, hy1, hy2⟩ := three_cells (box_kept ((Keeps.drew (fun _ => False) _).tr hk1 (fun _ h => h)) (fun h => h))))
    simp only [List.getElem_toArray, List.getElem_cons_succ, List.getElem_cons_zero, Act.put, List.setIfInBounds_toArray, List.set_cons_succ, List.set_cons_zero]
    go_wp2
    go_region
    go_wp2
    go_ret2
    refine ⟨rfl, ?_⟩
    exact ((((((Keeps.refl _ w).al _).dr).tr hk1 (fun _ h => h)).st (.inl (Nat.le_refl _)) _ |>.st (.inl (Nat.le_refl _)) _).st (.inl (Nat.le_refl _)) _).dr

end Go.Proofs.YtpagenipflmlfaaGreatDoor

/- Begin. -/

namespace Go.Proofs.YtpagenipflmlfaaGreatDoor

open Go.RowKit

/-- The store behind a change of its first three numbers. -/
theorem StoreAt.nums {w w' : World} {R : Rep} {S : Nat → Prop} (h : StoreAt w R) (hk : Keeps S w w') (hS : ∀ k, k ∈ R.fpWorks ++ R.fpPast → ¬ S k) (now floor begun : Int)
    (ht : w'.heap[R.sb]? = some (.cells (topCells { R with now, floor, begun }) 65 (0, 0))) : StoreAt w' { R with now, floor, begun } := by
  have hw := h.works.kept hk (fun k hk' => hS k (List.mem_append_left _ hk'))
  have hp := h.past.kept hk (fun k hk' => hS k (List.mem_append_right _ hk'))
  exact ⟨ht, ⟨hw.worksMap, hw.worksEach, hw.pinsMap, hw.copyMap⟩, hp, h.nodup⟩

theorem StoreAt.set {w : World} {R R' : Rep} (h : StoreAt w R) (hsb : R'.sb = R.sb) {i : Nat} {v : Value} (he : (topCells R).setIfInBounds i v = topCells R') : (w.setCell ⟨R.sb, i, none⟩ v).heap[R'.sb]? = some (.cells (topCells R') 65 (0, 0)) := by
  rw [hsb, heap_setCell_same h.top, he]

theorem fp_lt {w : World} {R : Rep} (h : StoreAt w R) : ∀ k ∈ R.fp, k < w.heap.size := by
  intro k hk
  simp only [Rep.fp, Rep.fpWorks, Rep.fpPast, List.mem_cons, List.mem_append, List.mem_flatMap, Option.mem_toList] at hk
  rcases hk with rfl | ((h1 | h1) | ⟨p, hp, h1⟩) | ((h1 | h1) | ⟨p, hp, h1⟩)
  · exact h.lt
  · exact h.works.worksMap.lt h1
  · simp only [pcOf, List.mem_append, Option.mem_toList] at h1
    exact h1.elim (fun h1 => h.works.pinsMap.lt h1) (fun h1 => h.works.copyMap.lt h1)
  · obtain ⟨h2, h3⟩ := h.works.worksEach p hp
    simp only [List.not_mem_nil, or_false] at h1
    rcases h1 with rfl | rfl
    · exact (Array.getElem?_eq_some_iff.1 h2).1
    · exact h3.lt
  · exact h.past.keysRow.lt h1
  · exact h.past.histMap.lt h1
  · exact (h.past.histEach p hp).lt h1

set_option maxRecDepth 100000 in
set_option maxHeartbeats 800000 in
theorem begin_full (R : Rep) (w : World) (h : StoreAt w R) (hl : R.works.length = 8) :
    Calls Tryz.prog 15 #[.pointer (some ⟨R.sb, 0, none⟩)] w fun e w' => e = .returned (.tuple #[.int .i64 0, .int .i64 3]) ∧ Keeps (fun _ => False) w w' := by
  obtain ⟨-, -, -, h3, -, -, -, -, -⟩ := h.seven
  have hlt := h.lt
  have hw : OptMap (Value.int .i64) w R.wm (R.works.map fun p => (p.1, workPtr p.2)) := h.works.worksMap
  have hmf : ∀ (fn : Fn) (first cap : Array Value) (w : World), (Instr.makeFunc fn first cap).run Tryz.prog w = .ok (.func fn first cap) w := fun _ _ _ _ => rfl
  have HL : Hid ((R.works.map fun p => (p.1, workPtr p.2)).length = 8) := by unfold Hid; simp [hl]
  clear hl h
  generalize R.sb = sb at *
  generalize R.works.map (fun p => (p.1, workPtr p.2)) = l at *
  go_enter_defers Tryz.func15, Tryz.ntmps15
  go_wp2_with (at_len; go_must (refine wpList_len_opt _ rfl _ 58 rfl 3 101 Tryz.underlying58 R.wm rfl l ((hw.kept (Keeps.alloc (fun _ => False) _ _) (fun _ _ h => h)).kept (Keeps.alloc (fun _ => False) _ _) (fun _ _ h => h)) ?_; rw [HL.out]))
  refine leaves_cons (f := 41) (args := #[.pointer (some ⟨w.heap.size + 1, 0, none⟩), .pointer (some ⟨w.heap.size, 0, none⟩)]) (by simp) (by simp [go_sem]) ?_
  refine (begin1_none (w.heap.size + 1) w.heap.size 3 (by omega) _ ?_ ?_).mono ?_
  · simp [go_sem]
  · simp [go_sem]
  rintro e u' w'' ⟨rfl, rfl, hk⟩
  have hb : w''.cell? ⟨w.heap.size, 0, none⟩ = some (.int .i64 3) := hk.cell (p := ⟨w.heap.size, 0, none⟩) (by simp [go_sem]) (fun h => h)
  simp [Leaves, settle, results, Tryz.results15, go_sem, hb]
  exact (((Keeps.refl _ w).al _).al _).tr hk (fun _ h => h)

theorem chg_new (w : World) (o : Obj) : Chg ((w.alloc o).alloc (.cells #[.slice none 0 0] 69)) (w.heap.size + 1) [] [w.heap.size + 1] := by
  refine ⟨.slice none 0 0, ?_, Row.nil _ _ _, by simp [Value.ownBlock], rfl⟩
  have := heap_new (w.alloc o) (.cells #[.slice none 0 0] 69)
  simpa using this

theorem eqMap_some (b : Nat) (w : World) : (binOp BinOp.eql 58 (.map (some b)) (.map none)).run Tryz.prog w = .ok (.bool false) w := by kernel_rfl

theorem eqMap_none (w : World) : (binOp BinOp.eql 58 (.map none) (.map none)).run Tryz.prog w = .ok (.bool true) w := by kernel_rfl

/-- Ahead of a region that draws, in a function that defers: it ends as it should. -/
theorem wp_normal {P : Program} {c : Code} {K : Act → World → Prop} {Q : Exit → Act → World → Prop} {a : Act} {w : World} (h : c.wp P (Exit.then K (fun _ _ _ => False)) a w) : c.wp P (Exit.then K Q) a w :=
  wp_mono h (fun e _ _ hq => by cases e <;> first | exact hq | exact hq.elim)

/-- Behind an assignment to the number of the last work. -/
theorem StoreAt.begunSet {w w' : World} {R : Rep} {C : List Nat} {n : Int} (h : StoreAt w R) (hk : Keeps (fun k => k ∈ C ∨ k = R.sb) w w') (hC : ∀ k ∈ C, k ∉ R.fp) (hb : w'.heap[R.sb]? = (w.setCell ⟨R.sb, 2, none⟩ (.int .i64 n)).heap[R.sb]?) : StoreAt w' { R with begun := n } := by
  refine h.nums hk (fun k hk' => ?_) R.now R.floor n ?_
  · rintro (hc | rfl)
    · exact hC k hc (List.mem_cons_of_mem _ hk')
    · have := h.nodup
      simp only [Rep.fp, List.nodup_cons] at this
      exact this.1 hk'
  · rw [hb]
    exact h.set (R' := { R with begun := n }) (i := 2) (v := .int .i64 n) rfl (by simp [topCells])

/-- What Begin leaves. -/
def BeginPost (R : Rep) (w w' : World) : Prop :=
  ∃ b m wm, StoreAt w' { R with begun := R.begun + 1, wm, works := R.works ++ [(R.begun + 1, ⟨b, m, R.now, []⟩)] } ∧ Keeps (· ∈ R.fp) w w' ∧ (wm = R.wm ∨ ∃ q, wm = some q ∧ w.heap.size ≤ q) ∧ w.heap.size ≤ b ∧ w.heap.size ≤ m

/-- A new work enters the map of the open ones. -/
theorem StoreAt.entered {w1 w2 : World} {R : Rep} {C : List Nat} {b0 : Nat} {n now : Int} (h : StoreAt w1 R) (hwm : R.wm = some b0) (hC : ∀ k ∈ C, k ∉ R.fp ∧ k ≠ w1.heap.size ∧ k ≠ w1.heap.size + 1) (hn : look R.works n = none)
    (hk : Keeps (fun k => k ∈ C ∨ k = b0) ((w1.alloc (.map #[] 0)).alloc (.cells #[.int .i64 now, .map (some w1.heap.size)] 104)).drew w2)
    (hm : MapAt (Value.int .i64) w2 b0 (put (R.works.map fun p => (p.1, workPtr p.2)) n (.pointer (some ⟨w1.heap.size + 1, 0, none⟩)))) :
    StoreAt w2 { R with works := R.works ++ [(n, ⟨w1.heap.size + 1, w1.heap.size, now, []⟩)] } ∧ Keeps (fun k => k ∈ C ∨ k = b0) w1 w2 := by
  have hk0 : Keeps (fun k => k ∈ C ∨ k = b0) w1 w2 := ((((Keeps.refl _ w1).al _).al _).dr).tr hk (fun _ h => h)
  have hnd := h.nodup
  have hlt := fp_lt h
  have hb0 : b0 ∈ R.fp := by simp [Rep.fp, Rep.fpWorks, hwm]
  have hb0w : b0 < w1.heap.size := hlt _ hb0
  have hfpW : R.fpWorks = b0 :: (pcOf R.pm R.cm ++ R.works.flatMap (fun p => [p.2.blk, p.2.mb])) := by simp [Rep.fpWorks, hwm]
  have hnb : ∀ k, k ∈ R.sb :: ((pcOf R.pm R.cm ++ R.works.flatMap (fun p => [p.2.blk, p.2.mb])) ++ R.fpPast) → ¬ (k ∈ C ∨ k = b0) := by
    intro k hk'
    rintro (hc | rfl)
    · refine (hC k hc).1 ?_
      simp only [Rep.fp, hfpW, List.mem_cons, List.mem_append] at hk' ⊢
      rcases hk' with h | h | h
      · exact .inl h
      · exact .inr (.inl (.inr h))
      · exact .inr (.inr h)
    · simp only [Rep.fp, hfpW, List.cons_append, List.nodup_cons, List.mem_cons, List.mem_append, not_or] at hnd
      simp only [List.mem_cons, List.mem_append] at hk'
      rcases hk' with h | h | h
      · exact hnd.1.1 h.symm
      · rcases h with h | h
        · exact hnd.2.1.1.1 h
        · exact hnd.2.1.1.2 h
      · exact hnd.2.1.2 h
  refine ⟨⟨?_, ⟨?_, ?_, ?_, ?_⟩, ?_, ?_⟩, hk0⟩
  · exact (hk0.block R.sb h.lt (hnb _ (by simp))).trans h.top
  · have e : (R.works ++ [(n, (⟨w1.heap.size + 1, w1.heap.size, now, []⟩ : WkR))]).map (fun p => (p.1, workPtr p.2)) = put (R.works.map fun p => (p.1, workPtr p.2)) n (.pointer (some ⟨w1.heap.size + 1, 0, none⟩)) := by
      rw [put_none (by rw [look_map, hn]; rfl)]
      simp [workPtr]
    show OptMap _ _ R.wm _
    rw [e, hwm]
    exact hm
  · intro p hp
    rcases List.mem_append.1 hp with hp | hp
    · obtain ⟨h1, h2⟩ := h.works.worksEach p hp
      have hm1 : p.2.blk ∈ R.works.flatMap (fun p => [p.2.blk, p.2.mb]) := List.mem_flatMap.2 ⟨p, hp, by simp⟩
      have hm2 : p.2.mb ∈ R.works.flatMap (fun p => [p.2.blk, p.2.mb]) := List.mem_flatMap.2 ⟨p, hp, by simp⟩
      exact ⟨(hk0.block _ (Array.getElem?_eq_some_iff.1 h1).1 (hnb _ (by simp [hm1]))).trans h1, h2.kept hk0 (hnb _ (by simp [hm2]))⟩
    · simp only [List.mem_singleton] at hp
      subst hp
      have hd : (((w1.alloc (.map #[] 0)).alloc (.cells #[.int .i64 now, .map (some w1.heap.size)] 104)).drew).heap[w1.heap.size + 1]? = some (.cells #[.int .i64 now, .map (some w1.heap.size)] 104 (0, 0)) := by
        have := heap_new (w1.alloc (.map #[] 0)) (.cells #[.int .i64 now, .map (some w1.heap.size)] 104)
        simpa [World.drew] using this
      refine ⟨?_, ?_⟩
      · rw [hk.block (w1.heap.size + 1) (by simp) ?_]
        · exact hd
        · rintro (hc | hc)
          · exact (hC _ hc).2.2 rfl
          · omega
      · have h0 : MapAt Value.string (w1.alloc (.map #[] 0)) w1.heap.size [] := MapAt.made _ _
        have h1 : MapAt Value.string (((w1.alloc (.map #[] 0)).alloc (.cells #[.int .i64 now, .map (some w1.heap.size)] 104)).drew) w1.heap.size [] := h0.kept (((Keeps.refl (fun _ => False) _).al _).dr) (fun h => h)
        refine h1.kept hk ?_
        rintro (hc | hc)
        · exact (hC _ hc).2.1 rfl
        · omega
  · exact h.works.pinsMap.kept hk0 (fun b hb => hnb _ (by simp [pcOf, hb]))
  · exact h.works.copyMap.kept hk0 (fun b hb => hnb _ (by simp [pcOf, hb]))
  · exact h.past.kept hk0 (fun k hk' => hnb _ (List.mem_cons_of_mem _ (List.mem_append_right _ hk')))
  · have e : Rep.fp { R with works := R.works ++ [(n, ⟨w1.heap.size + 1, w1.heap.size, now, []⟩)] } = R.sb :: ((R.wm.toList ++ pcOf R.pm R.cm ++ (R.works.flatMap (fun p => [p.2.blk, p.2.mb]) ++ [w1.heap.size + 1, w1.heap.size])) ++ R.fpPast) := by
      simp [Rep.fp, Rep.fpWorks, Rep.fpPast]
    rw [e]
    have hperm : (R.sb :: ((R.wm.toList ++ pcOf R.pm R.cm ++ (R.works.flatMap (fun p => [p.2.blk, p.2.mb]) ++ [w1.heap.size + 1, w1.heap.size])) ++ R.fpPast)).Perm ([w1.heap.size + 1, w1.heap.size] ++ R.fp) := by
      simp only [Rep.fp, Rep.fpWorks]
      refine List.Perm.trans ?_ (List.perm_middle.symm)
      refine List.Perm.cons _ ?_
      rw [← List.append_assoc, List.append_assoc _ _ R.fpPast]
      refine List.Perm.trans (List.perm_append_comm_assoc _ _ _) ?_
      simp [List.append_assoc]
    rw [hperm.nodup_iff]
    simp only [List.cons_append, List.nil_append, List.nodup_cons, List.mem_cons, not_or]
    exact ⟨⟨by omega, fun h' => by have := hlt _ h'; omega⟩, fun h' => by have := hlt _ h'; omega, hnd⟩

theorem mem_fp_entered {R : Rep} {c n now : Int} {b m k : Nat} (hk : k ∈ Rep.fp { R with begun := c, works := R.works ++ [(n, ⟨b, m, now, []⟩)] }) : k ∈ R.fp ∨ k = b ∨ k = m := by
  have e : Rep.fp { R with begun := c, works := R.works ++ [(n, ⟨b, m, now, []⟩)] } = R.sb :: ((R.wm.toList ++ pcOf R.pm R.cm ++ (R.works.flatMap (fun p => [p.2.blk, p.2.mb]) ++ [b, m])) ++ R.fpPast) := by
    simp [Rep.fp, Rep.fpWorks, Rep.fpPast]
  rw [e] at hk
  simp only [List.mem_cons, List.mem_append, List.not_mem_nil, or_false] at hk
  simp only [Rep.fp, Rep.fpWorks, List.mem_cons, List.mem_append]
  rcases hk with h | ((h | h) | (h | h | h)) | h
  · exact .inl (.inl h)
  · exact .inl (.inr (.inl (.inl (.inl h))))
  · exact .inl (.inr (.inl (.inl (.inr h))))
  · exact .inl (.inr (.inl (.inr h)))
  · exact .inr (.inl h)
  · exact .inr (.inr h)
  · exact .inl (.inr (.inr h))

set_option maxRecDepth 100000 in
set_option maxHeartbeats 1000000 in
theorem begin_some (R : Rep) (w : World) (h : StoreAt w R) (b0 : Nat) (hwm : R.wm = some b0) (hl : R.works.length < 8) (hb1 : 0 ≤ R.begun) (hb2 : R.begun < 1152921504606846976) (hn : look R.works (R.begun + 1) = none) :
    Calls Tryz.prog 15 #[.pointer (some ⟨R.sb, 0, none⟩)] w fun e w' => e = .returned (.tuple #[.int .i64 (R.begun + 1), .int .i64 0]) ∧ BeginPost R w w' := by
  obtain ⟨h0, -, h2, h3, -, -, -, -, -⟩ := h.seven
  have hlt := h.lt
  have hw : MapAt (Value.int .i64) w b0 (R.works.map fun p => (p.1, workPtr p.2)) := by have := h.works.worksMap; rw [hwm] at this; exact this
  have hmf : ∀ (fn : Fn) (first cap : Array Value) (w : World), (Instr.makeFunc fn first cap).run Tryz.prog w = .ok (.func fn first cap) w := fun _ _ _ _ => rfl
  have hmm := @run_makeMap Tryz.prog
  have hem := eqMap_some
  rw [hwm] at h3
  have HL : Hid ((R.works.map fun p => (p.1, workPtr p.2)).length < 8) := by unfold Hid; simpa using hl
  have HN : Hid (look (R.works.map fun p => (p.1, workPtr p.2)) (R.begun + 1) = none) := by unfold Hid; rw [look_map, hn]; rfl
  have HST : Hid (StoreAt w R) := h
  have HWM : Hid (R.wm = some b0) := hwm
  have HNF : Hid (R.sb ≠ b0) := by
    have := h.nodup
    simp only [Rep.fp, Rep.fpWorks, hwm, Option.toList_some, List.nodup_cons] at this
    intro e
    exact this.1 (by simp [e])
  have HWR : Hid (IntKind.i64.wrap (R.begun + 1) = R.begun + 1) := IntWalk.i64_in _ ⟨by omega, by omega⟩
  clear hl h hn hwm
  obtain ⟨n8, hn8⟩ : ∃ n8 : Nat, (R.works.map fun p => (p.1, workPtr p.2)).length = n8 := ⟨_, rfl⟩
  have hn8' : n8 < 8 := by rw [← hn8]; exact HL.out
  have HN8 : Hid ((R.works.map fun p => (p.1, workPtr p.2)).length = n8) := hn8
  clear hn8
  go_enter_defers Tryz.func15, Tryz.ntmps15
  go_wp2_with (at_len; go_must (refine wpList_len_at _ rfl _ 58 rfl 3 101 Tryz.underlying58 b0 rfl _ ((hw.kept (Keeps.alloc (fun _ => False) _ _) (fun h => h)).kept (Keeps.alloc (fun _ => False) _ _) (fun h => h)) ?_; rw [HN8.out]))
  refine wp_normal ?_
  go_region_with (go_at_call 43; go_must (refine (assign_int (w.heap.size + 1) [] [w.heap.size + 1] R.sb 2 R.begun (IntKind.i64.wrap (R.begun + 1)) _ ((chg_new w _).kept (Keeps.drew (fun _ => False) _) (fun _ _ h => h)) ((HST.out.kept (((Keeps.refl (fun _ => False) w).al _).al _).dr (fun _ _ h => h)).cell 2) ((HST.out.kept (((Keeps.refl (fun _ => False) w).al _).al _).dr (fun _ _ h => h)).frozen 2) (by simp; omega) (by simp)).mono ?_; rintro e w1 ⟨rfl, fs1, C1, hf1, hC1, hk1, hC1', hb1⟩; rw [HWR.out] at hb1; have HB1 : Hid (w1.heap[R.sb]? = _) := hb1; clear hb1))
  have HS1 : Hid (StoreAt w1 { R with begun := R.begun + 1 }) := StoreAt.begunSet (HST.out.kept (((Keeps.refl (fun _ => False) w).al _).al _).dr (fun _ _ h => h)) hk1 (fun k hk hf => by have := fp_lt HST.out k hf; simp at hk; omega) HB1.out
  have g0 : w1.cell? ⟨R.sb, 0, none⟩ = some (.int .i64 R.now) := HS1.out.cell 0
  have g2 : w1.cell? ⟨R.sb, 2, none⟩ = some (.int .i64 (R.begun + 1)) := HS1.out.cell 2
  have g3 : w1.cell? ⟨R.sb, 3, none⟩ = some (.map (some b0)) := (HS1.out.cell 3).trans (by rw [← HWM.out]; rfl)
  have gl : R.sb < w1.heap.size := HS1.out.lt
  have gM : MapAt (Value.int .i64) w1 b0 (R.works.map fun p => (p.1, workPtr p.2)) := by have := HS1.out.works.worksMap; simp only [HWM.out] at this; exact this
  have HC1 : Hid (∀ k ∈ C1, k ∉ R.fp ∧ w.heap.size < k) := fun k hk => by
    rcases hC1' k hk with h' | h'
    · simp at h'
      exact ⟨fun hf => by have := fp_lt HST.out k hf; omega, by omega⟩
    · simp at h'
      exact ⟨fun hf => by have := fp_lt HST.out k hf; omega, by omega⟩
  have HCB : Hid (b0 ∉ C1) := fun hc => (HC1.out _ hc).1 (by simp [Rep.fp, Rep.fpWorks, HWM.out])
  have HSB : Hid (¬ (R.sb ∈ C1 ∨ R.sb = b0)) := fun h' => h'.elim (fun hc => (HC1.out _ hc).1 (by simp [Rep.fp])) HNF.out
  have hE := enter_work (w.heap.size + 1) fs1 C1 b0 (R.begun + 1) _ none (some ⟨w1.heap.size + 1, 0, none⟩) ((w1.alloc (.map #[] 0)).alloc (.cells #[.int .i64 R.now, .map (some w1.heap.size)] 104)).drew (hC1.kept (((Keeps.refl (fun _ => False) w1).al _).al _).dr (fun _ _ h => h)) (gM.kept (((Keeps.refl (fun _ => False) w1).al _).al _).dr (fun h => h)) (by rw [HN.out]; rfl) HCB.out (by rw [hf1]; simp)
  clear h0 h2 h3
  go_wp2_with fail
  go_region_held3 (fun W => W.cell? ⟨R.sb, 0, none⟩ = some (.int .i64 R.now) ∧ W.cell? ⟨R.sb, 2, none⟩ = some (.int .i64 (R.begun + 1)) ∧ W.cell? ⟨R.sb, 3, none⟩ = some (.map (some b0))) (go_keep) (first | (go_at_call 44; refine hE.mono ?_; rintro e w2 ⟨rfl, fs2, C2, hf2, hC2, hk2, hC2', hm2⟩; have q0 := hk2.cell (p := ⟨R.sb, 0, none⟩) ((((Keeps.refl (fun _ => False) w1).al _).al _).dr.cell g0 (fun h => h)) HSB.out; have q2 := hk2.cell (p := ⟨R.sb, 2, none⟩) ((((Keeps.refl (fun _ => False) w1).al _).al _).dr.cell g2 (fun h => h)) HSB.out; have q3 := hk2.cell (p := ⟨R.sb, 3, none⟩) ((((Keeps.refl (fun _ => False) w1).al _).al _).dr.cell g3 (fun h => h)) HSB.out))
  have HK2 : Hid (Keeps (fun k => k ∈ C1 ∨ k = b0) ((w1.alloc (.map #[] 0)).alloc (.cells #[.int .i64 R.now, .map (some w1.heap.size)] 104)).drew w2) := hk2
  obtain ⟨x1, x2⟩ := HS1.out.entered (C := C1) (n := R.begun + 1) (now := R.now) HWM.out (fun k hk => ⟨(HC1.out k hk).1, by have := hC1.lt k hk; omega, by have := hC1.lt k hk; omega⟩) (by have := HN.out; rw [look_map] at this; simpa using this) HK2.out hm2
  have hE0 : w2.heap[w.heap.size]? = some (.cells #[.int .i64 0] 34 (0, 0)) := by
    rw [x2.block w.heap.size (by have := hk1.size; simp at this; omega) (by rintro (hc | hc); exact absurd (HC1.out _ hc).2 (by omega); exact absurd (fp_lt HST.out b0 (by simp [Rep.fp, Rep.fpWorks, HWM.out])) (by omega))]
    rw [hk1.block w.heap.size (by simp; omega) (by rintro (hc | hc); simp at hc; omega)]
    have := heap_new w (.cells #[.int .i64 0] 34)
    exact (Below.heap_alloc _ _ _ (by simp)).trans this
  have y0 : w2.cell? ⟨w.heap.size, 0, none⟩ = some (.int .i64 0) := cell_of_heap hE0 0
  have y1 : w2.frozen? ⟨w.heap.size, 0, none⟩ = false := frozen_of_heap hE0 0
  have HE0 : Hid (w2.heap[w.heap.size]? = some (.cells #[.int .i64 0] 34 (0, 0))) := hE0
  have HX1 : Hid (StoreAt w2 _) := x1
  have HX2 : Hid (Keeps _ w1 w2) := x2
  clear hE0 x1 x2 hE hm2 hk2 g0 g2 g3 gM hw
  go_wp2
  refine leaves_cons (f := 41) (args := #[.pointer (some ⟨w.heap.size + 1, 0, none⟩), .pointer (some ⟨w.heap.size, 0, none⟩)]) (by simp) (by simp [go_sem]) ?_
  have hE1 := heap_setCell_same (i := 0) HE0.out (.int .i64 0)
  refine (begin1_ok (w.heap.size + 1) w.heap.size _ ?_).mono ?_
  · exact cell_of_heap hE1 0
  rintro e u' w'' ⟨rfl, rfl, rfl⟩
  have hpost : BeginPost R w (w2.setCell ⟨w.heap.size, 0, none⟩ (.int .i64 0)) := by
    refine ⟨w1.heap.size + 1, w1.heap.size, R.wm, ?_, ?_, .inl rfl, ?_, ?_⟩
    · refine HX1.out.kept (Keeps.setCell _ _ _) (fun k hk e => ?_)
      have e' : k = w.heap.size := e
      have hkk : k ∈ R.fp ∨ k = w1.heap.size + 1 ∨ k = w1.heap.size := mem_fp_entered hk
      have hz1 := hk1.size
      simp at hz1
      rcases hkk with h | h | h
      · have := fp_lt HST.out k h; omega
      · omega
      · omega
    · have h1 : Keeps (· ∈ R.fp) w w1 := ((((Keeps.refl (· ∈ R.fp) w).al _).al _).dr).trans hk1 (fun k hk h => by
        rcases h with h | rfl
        · simp at h; omega
        · simp [Rep.fp])
      refine (h1.trans HX2.out (fun k hk h => ?_)).st (.inl (Nat.le_refl _)) _
      rcases h with h | rfl
      · exact absurd (HC1.out k h).2 (by omega)
      · simp [Rep.fp, Rep.fpWorks, HWM.out]
    · have hz1 := hk1.size
      simp at hz1
      omega
    · have hz1 := hk1.size
      simp at hz1
      omega
  have hb := cell_of_heap hE1 0
  generalize w2.setCell ⟨w.heap.size, 0, none⟩ (.int .i64 0) = W3 at hpost hb
  simp at hb
  simp [Leaves, settle, results, Tryz.results15, go_sem, hb, hpost]

end Go.Proofs.YtpagenipflmlfaaGreatDoor

/- Begin on a store at which no work was begun. -/

namespace Go.Proofs.YtpagenipflmlfaaGreatDoor

open Go.RowKit

theorem mem_fp_wm {R : Rep} {q k : Nat} (hwm : R.wm = none) (hk : k ∈ Rep.fp { R with wm := some q }) : k ∈ R.fp ∨ k = q := by
  have e : Rep.fp { R with wm := some q } = R.sb :: (q :: (R.fpWorks ++ R.fpPast)) := by
    simp [Rep.fp, Rep.fpWorks, Rep.fpPast, hwm]
  rw [e] at hk
  simp only [List.mem_cons] at hk
  simp only [Rep.fp, List.mem_cons]
  rcases hk with h | h | h
  · exact .inl (.inl h)
  · exact .inr h
  · exact .inl (.inr h)

/-- Behind the making of the map of open works. -/
theorem StoreAt.mapSet {w w' : World} {R : Rep} {C : List Nat} {q : Nat} (h : StoreAt w R) (hwm : R.wm = none) (hwk : R.works = []) (hk : Keeps (fun k => k ∈ C ∨ k = R.sb) w w') (hC : ∀ k ∈ C, k ∉ R.fp) (hq : MapAt (Value.int .i64) w q []) (hqC : q ∉ C) (hqf : q ∉ R.fp)
    (hb : w'.heap[R.sb]? = (w.setCell ⟨R.sb, 3, none⟩ (.map (some q))).heap[R.sb]?) : StoreAt w' { R with wm := some q } := by
  have hnd := h.nodup
  have hns : ∀ k, k ∈ R.fpWorks ++ R.fpPast → ¬ (k ∈ C ∨ k = R.sb) := by
    intro k hk'
    rintro (hc | rfl)
    · exact hC k hc (List.mem_cons_of_mem _ hk')
    · simp only [Rep.fp, List.nodup_cons] at hnd
      exact hnd.1 hk'
  refine ⟨?_, ⟨?_, ?_, ?_, ?_⟩, ?_, ?_⟩
  · rw [hb]
    exact h.set (R' := { R with wm := some q }) (i := 3) (v := .map (some q)) rfl (by simp [topCells])
  · show MapAt _ _ _ _
    rw [hwk]
    refine hq.kept hk ?_
    rintro (hc | rfl)
    · exact hqC hc
    · exact hqf (by simp [Rep.fp])
  · intro p hp
    rw [hwk] at hp
    cases hp
  · exact h.works.pinsMap.kept hk (fun b hb => hns b (by simp [Rep.fpWorks, pcOf, hb]))
  · exact h.works.copyMap.kept hk (fun b hb => hns b (by simp [Rep.fpWorks, pcOf, hb]))
  · exact h.past.kept hk (fun k hk' => hns k (List.mem_append_right _ hk'))
  · have e : Rep.fp { R with wm := some q } = R.sb :: (q :: (R.fpWorks ++ R.fpPast)) := by
      simp [Rep.fp, Rep.fpWorks, Rep.fpPast, hwm]
    rw [e]
    simp only [Rep.fp, List.nodup_cons, List.mem_cons, not_or] at hnd hqf ⊢
    exact ⟨⟨fun e => hqf.1 e.symm, hnd.1⟩, hqf.2, hnd.2⟩

set_option maxRecDepth 100000 in
set_option maxHeartbeats 1000000 in
theorem begin_none (R : Rep) (w : World) (h : StoreAt w R) (hwm : R.wm = none) (hb1 : 0 ≤ R.begun) (hb2 : R.begun < 1152921504606846976) :
    Calls Tryz.prog 15 #[.pointer (some ⟨R.sb, 0, none⟩)] w fun e w' => e = .returned (.tuple #[.int .i64 (R.begun + 1), .int .i64 0]) ∧ BeginPost R w w' := by
  obtain ⟨h0, -, h2, h3, -, -, -, -, -⟩ := h.seven
  have hlt := h.lt
  have hw : OptMap (Value.int .i64) w none [] := rfl
  have hwk : R.works = [] := by have := h.works.worksMap; rw [hwm] at this; exact List.map_eq_nil_iff.1 this
  have hmf : ∀ (fn : Fn) (first cap : Array Value) (w : World), (Instr.makeFunc fn first cap).run Tryz.prog w = .ok (.func fn first cap) w := fun _ _ _ _ => rfl
  have hmm := @run_makeMap Tryz.prog
  have hem := eqMap_none
  rw [hwm] at h3
  have HST : Hid (StoreAt w R) := h
  have HWM0 : Hid (R.wm = none) := hwm
  have HWK : Hid (R.works = []) := hwk
  have HWR : Hid (IntKind.i64.wrap (R.begun + 1) = R.begun + 1) := IntWalk.i64_in _ ⟨by omega, by omega⟩
  clear h hwm hwk
  go_enter_defers Tryz.func15, Tryz.ntmps15
  go_wp2_with (first
    | (at_len; go_must (refine wpList_len_opt _ rfl _ 58 rfl 3 101 Tryz.underlying58 none rfl [] ((hw.kept (Keeps.alloc (fun _ => False) _ _) (fun _ _ h => h)).kept (Keeps.alloc (fun _ => False) _ _) (fun _ _ h => h)) ?_; simp only [List.length_nil]))
    | (go_at_call 42; go_must (refine (assign_map (w.heap.size + 1) [] [w.heap.size + 1] R.sb 3 none (some (w.heap.size + 1 + 1)) _ ((chg_new w _).kept (Keeps.alloc (fun _ => False) _ _) (fun _ _ h => h)) (((HST.out.kept (((Keeps.refl (fun _ => False) w).al _).al _) (fun _ _ h => h)).kept (Keeps.alloc (fun _ => False) _ _) (fun _ _ h => h)).cell 3 |>.trans (by rw [← HWM0.out]; rfl)) ((HST.out.kept ((((Keeps.refl (fun _ => False) w).al _).al _).al _) (fun _ _ h => h)).frozen 3) (by simp; omega) (by simp)).mono ?_; rintro e w0 ⟨rfl, fs0, C0, hf0, hC0, hk0, hC0', hb0⟩; have HB0 : Hid (w0.heap[R.sb]? = _) := hb0; clear hb0)))
  have HC0 : Hid (∀ k ∈ C0, k ∉ R.fp ∧ w.heap.size < k ∧ k ≠ w.heap.size + 1 + 1 ∧ k < w0.heap.size) := fun k hk => by
    have hl0 := hC0.lt k hk
    rcases hC0' k hk with h' | h'
    · simp at h'
      exact ⟨fun hf => by have := fp_lt HST.out k hf; omega, by omega, by omega, hl0⟩
    · simp at h'
      exact ⟨fun hf => by have := fp_lt HST.out k hf; omega, by omega, by omega, hl0⟩
  have HS0 : Hid (StoreAt w0 { R with wm := some (w.heap.size + 1 + 1) }) := by
    refine StoreAt.mapSet (HST.out.kept ((((Keeps.refl (fun _ => False) w).al _).al _).al _) (fun _ _ h => h)) HWM0.out HWK.out hk0 (fun k hk hf => by have := fp_lt HST.out k hf; simp at hk; omega) ?_ (by simp) (fun hf => by have := fp_lt HST.out _ hf; omega) HB0.out
    have := MapAt.made (Value.int .i64) ((w.alloc (.cells #[.int .i64 0] 34)).alloc (.cells #[.slice none 0 0] 69))
    simpa using this
  have hz0 : w.heap.size + 3 ≤ w0.heap.size := by have := hk0.size; simp at this; omega
  have k2 : w0.cell? ⟨R.sb, 2, none⟩ = some (.int .i64 R.begun) := HS0.out.cell 2
  have HSB0 : Hid (R.sb ∉ C0) := fun hc => (HC0.out _ hc).1 (by simp [Rep.fp])
  clear hw h0 h2 h3
  refine wp_normal ?_
  go_region_with (go_at_call 43; go_must (refine (assign_int (w.heap.size + 1) fs0 C0 R.sb 2 R.begun (IntKind.i64.wrap (R.begun + 1)) _ (hC0.kept (Keeps.drew (fun _ => False) _) (fun _ _ h => h)) ((HS0.out.kept (Keeps.drew (fun _ => False) _) (fun _ _ h => h)).cell 2) ((HS0.out.kept (Keeps.drew (fun _ => False) _) (fun _ _ h => h)).frozen 2) HSB0.out (by rw [hf0]; simp)).mono ?_; rintro e w1 ⟨rfl, fs1, C1, hf1, hC1, hk1, hC1', hb1⟩; rw [HWR.out] at hb1; have HB1 : Hid (w1.heap[R.sb]? = _) := hb1; clear hb1))
  have HC1 : Hid (∀ k ∈ C1, k ∉ R.fp ∧ w.heap.size < k ∧ k ≠ w.heap.size + 1 + 1 ∧ k < w1.heap.size) := fun k hk => by
    have hl1 := hC1.lt k hk
    rcases hC1' k hk with h' | h'
    · obtain ⟨a1, a2, a3, a4⟩ := HC0.out k h'
      exact ⟨a1, a2, a3, hl1⟩
    · simp at h'
      exact ⟨fun hf => by have := fp_lt HST.out k hf; omega, by omega, by omega, hl1⟩
  have HS1 : Hid (StoreAt w1 { R with begun := R.begun + 1, wm := some (w.heap.size + 1 + 1) }) := StoreAt.begunSet (R := { R with wm := some (w.heap.size + 1 + 1) }) (HS0.out.kept (Keeps.drew (fun _ => False) _) (fun _ _ h => h)) hk1 (fun k hk hf => by
    obtain ⟨a1, a2, a3, a4⟩ := HC0.out k hk
    rcases mem_fp_wm HWM0.out hf with h | h
    · exact a1 h
    · exact a3 h) HB1.out
  have g0 : w1.cell? ⟨R.sb, 0, none⟩ = some (.int .i64 R.now) := HS1.out.cell 0
  have g2 : w1.cell? ⟨R.sb, 2, none⟩ = some (.int .i64 (R.begun + 1)) := HS1.out.cell 2
  have g3 : w1.cell? ⟨R.sb, 3, none⟩ = some (.map (some (w.heap.size + 1 + 1))) := HS1.out.cell 3
  have gl : R.sb < w1.heap.size := HS1.out.lt
  have hz1 : w.heap.size + 3 ≤ w1.heap.size := by have := hk1.size; simp at this; omega
  have gM : MapAt (Value.int .i64) w1 (w.heap.size + 1 + 1) (R.works.map fun p => (p.1, workPtr p.2)) := HS1.out.works.worksMap
  have HN : Hid (look (R.works.map fun p => (p.1, workPtr p.2)) (R.begun + 1) = none) := by unfold Hid; rw [HWK.out]; rfl
  have HCB : Hid (w.heap.size + 1 + 1 ∉ C1) := fun hc => (HC1.out _ hc).2.2.1 rfl
  have HSB : Hid (¬ (R.sb ∈ C1 ∨ R.sb = w.heap.size + 1 + 1)) := fun h' => h'.elim (fun hc => (HC1.out _ hc).1 (by simp [Rep.fp])) (fun e => by omega)
  have hE := enter_work (w.heap.size + 1) fs1 C1 (w.heap.size + 1 + 1) (R.begun + 1) _ none (some ⟨w1.heap.size + 1, 0, none⟩) ((w1.alloc (.map #[] 0)).alloc (.cells #[.int .i64 R.now, .map (some w1.heap.size)] 104)).drew (hC1.kept (((Keeps.refl (fun _ => False) w1).al _).al _).dr (fun _ _ h => h)) (gM.kept (((Keeps.refl (fun _ => False) w1).al _).al _).dr (fun h => h)) (by rw [HN.out]; rfl) HCB.out (by rw [hf1, hf0]; simp)
  clear k2
  go_wp2_with fail
  go_region_held3 (fun W => W.cell? ⟨R.sb, 0, none⟩ = some (.int .i64 R.now) ∧ W.cell? ⟨R.sb, 2, none⟩ = some (.int .i64 (R.begun + 1)) ∧ W.cell? ⟨R.sb, 3, none⟩ = some (.map (some (w.heap.size + 1 + 1)))) (go_keep) (first | (go_at_call 44; refine hE.mono ?_; rintro e w2 ⟨rfl, fs2, C2, hf2, hC2, hk2, hC2', hm2⟩; have q0 := hk2.cell (p := ⟨R.sb, 0, none⟩) ((((Keeps.refl (fun _ => False) w1).al _).al _).dr.cell g0 (fun h => h)) HSB.out; have q2 := hk2.cell (p := ⟨R.sb, 2, none⟩) ((((Keeps.refl (fun _ => False) w1).al _).al _).dr.cell g2 (fun h => h)) HSB.out; have q3 := hk2.cell (p := ⟨R.sb, 3, none⟩) ((((Keeps.refl (fun _ => False) w1).al _).al _).dr.cell g3 (fun h => h)) HSB.out))
  have HK2 : Hid (Keeps (fun k => k ∈ C1 ∨ k = w.heap.size + 1 + 1) ((w1.alloc (.map #[] 0)).alloc (.cells #[.int .i64 R.now, .map (some w1.heap.size)] 104)).drew w2) := hk2
  obtain ⟨x1, x2⟩ := HS1.out.entered (C := C1) (b0 := w.heap.size + 1 + 1) (n := R.begun + 1) (now := R.now) rfl (fun k hk => by
    obtain ⟨a1, a2, a3, a4⟩ := HC1.out k hk
    exact ⟨fun hf => by
      rcases mem_fp_wm (R := { R with begun := R.begun + 1 }) HWM0.out hf with h | h
      · exact a1 h
      · exact a3 h, by omega, by omega⟩) (by show look R.works _ = none; rw [HWK.out]; rfl) HK2.out hm2
  have hE0 : w2.heap[w.heap.size]? = some (.cells #[.int .i64 0] 34 (0, 0)) := by
    rw [x2.block w.heap.size (by omega) (by rintro (hc | hc); exact absurd (HC1.out _ hc).2.1 (by omega); omega)]
    rw [hk1.block w.heap.size (by simp; omega) (by rintro (hc | hc); exact absurd (HC0.out _ hc).2.1 (by omega); omega)]
    show w0.heap[w.heap.size]? = _
    rw [hk0.block w.heap.size (by simp; omega) (by rintro (hc | hc); simp at hc; omega)]
    have := heap_new w (.cells #[.int .i64 0] 34)
    exact (Below.heap_alloc _ _ _ (by simp; omega)).trans ((Below.heap_alloc _ _ _ (by simp)).trans this)
  have y0 : w2.cell? ⟨w.heap.size, 0, none⟩ = some (.int .i64 0) := cell_of_heap hE0 0
  have y1 : w2.frozen? ⟨w.heap.size, 0, none⟩ = false := frozen_of_heap hE0 0
  have HE0 : Hid (w2.heap[w.heap.size]? = some (.cells #[.int .i64 0] 34 (0, 0))) := hE0
  have HX1 : Hid (StoreAt w2 _) := x1
  have HX2 : Hid (Keeps _ w1 w2) := x2
  clear hE0 x1 x2 hE hm2 hk2 g0 g2 g3 gM
  go_wp2
  refine leaves_cons (f := 41) (args := #[.pointer (some ⟨w.heap.size + 1, 0, none⟩), .pointer (some ⟨w.heap.size, 0, none⟩)]) (by simp) (by simp [go_sem]) ?_
  have hE1 := heap_setCell_same (i := 0) HE0.out (.int .i64 0)
  refine (begin1_ok (w.heap.size + 1) w.heap.size _ ?_).mono ?_
  · exact cell_of_heap hE1 0
  rintro e u' w'' ⟨rfl, rfl, rfl⟩
  have hpost : BeginPost R w (w2.setCell ⟨w.heap.size, 0, none⟩ (.int .i64 0)) := by
    refine ⟨w1.heap.size + 1, w1.heap.size, some (w.heap.size + 1 + 1), ?_, ?_, .inr ⟨_, rfl, by omega⟩, by omega, by omega⟩
    · refine HX1.out.kept (Keeps.setCell _ _ _) (fun k hk e => ?_)
      have e' : k = w.heap.size := e
      have hkk := mem_fp_entered (R := { R with wm := some (w.heap.size + 1 + 1) }) hk
      rcases hkk with h | h | h
      · rcases mem_fp_wm HWM0.out h with h | h
        · have := fp_lt HST.out k h; omega
        · omega
      · omega
      · omega
    · have h0 : Keeps (· ∈ R.fp) w w0 := ((((Keeps.refl (· ∈ R.fp) w).al _).al _).al _).trans hk0 (fun k hk h => by
        rcases h with h | rfl
        · simp at h; omega
        · simp [Rep.fp])
      have h1 : Keeps (· ∈ R.fp) w w1 := (h0.dr).trans hk1 (fun k hk h => by
        rcases h with h | rfl
        · exact absurd (HC0.out k h).2.1 (by omega)
        · simp [Rep.fp])
      refine (h1.trans HX2.out (fun k hk h => ?_)).st (.inl (Nat.le_refl _)) _
      rcases h with h | rfl
      · exact absurd (HC1.out k h).2.1 (by omega)
      · omega
  have hb := cell_of_heap hE1 0
  generalize w2.setCell ⟨w.heap.size, 0, none⟩ (.int .i64 0) = W3 at hpost hb
  simp at hb
  simp [Leaves, settle, results, Tryz.results15, go_sem, hb, hpost]

end Go.Proofs.YtpagenipflmlfaaGreatDoor

/- Get, Abort. -/

namespace Go.Proofs.YtpagenipflmlfaaGreatDoor

open Go.RowKit

/-- What is always so of a store's contents. -/
structure Good (R : Rep) : Prop where
  now : 0 ≤ R.now ∧ R.now ≤ 1000000000
  begun : 0 ≤ R.begun ∧ R.begun ≤ 1000000000000000
  works8 : R.works.length ≤ 8
  numbers : ∀ p ∈ R.works, 1 ≤ p.1 ∧ p.1 ≤ R.begun
  began : ∀ p ∈ R.works, 0 ≤ p.2.began ∧ p.2.began ≤ R.now
  writes30 : ∀ p ∈ R.works, p.2.writes.length ≤ 30
  wkeys : ∀ p ∈ R.works, ∀ q ∈ p.2.writes, keyB q.1 = true ∧ valB q.2.value = true ∧ q.2.state = 0
  rising : ∀ p ∈ R.hist, Rising p.2.vers
  states : ∀ p ∈ R.hist, ∀ v ∈ p.2.vers, 0 ≤ v.state ∧ v.state ≤ R.now
  filled : ∀ p ∈ R.hist, p.2.vers ≠ []
  hkeys : ∀ p ∈ R.hist, keyB p.1 = true
  hvals : ∀ p ∈ R.hist, ∀ v ∈ p.2.vers, valB v.value = true
  sorted : R.keys.Pairwise (fun a b => a.data.toList < b.data.toList)
  keys : ∀ k, k ∈ R.keys ↔ ∃ x, look R.hist k = some x

theorem rising_length : ∀ (vs : List Ver) (lo hi : Int), Rising vs → (∀ v ∈ vs, lo ≤ v.state ∧ v.state ≤ hi) → (vs.length : Int) ≤ max 0 (hi - lo + 1)
  | [], lo, hi, _, _ => by simp; omega
  | v :: vs, lo, hi, hr, hb => by
    have h1 := hb v (by simp)
    obtain ⟨h2, h3⟩ := List.pairwise_cons.1 hr
    have ih := rising_length vs (v.state + 1) hi h3 (fun u hu => ⟨by have := h2 u hu; omega, (hb u (by simp [hu])).2⟩)
    simp only [List.length_cons]
    omega

theorem Good.vers {R : Rep} (h : Good R) (key : ByteArray) : Rising (versOf R.hist key) ∧ (versOf R.hist key).length ≤ 1000000000000 := by
  unfold versOf
  cases hl : look R.hist key with
  | none => exact ⟨List.Pairwise.nil, by simp⟩
  | some x =>
    have hm := look_mem hl
    have h1 := h.rising _ hm
    have h2 := rising_length x.vers 0 R.now h1 (h.states _ hm)
    refine ⟨h1, ?_⟩
    have h3 := h.now
    simp only [Option.map_some, Option.getD_some]
    omega

/-- see, for a work of the store -/
theorem see_any (R : Rep) (n : Int) (x : WkR) (key : ByteArray) (w : World) (h : StoreAt w R) (g : Good R) (hx : (n, x) ∈ R.works) :
    Calls Tryz.prog 51 #[.pointer (some ⟨R.sb, 0, none⟩), workPtr x, .string key] w fun e w' => e = .returned (.tuple #[.string ((seeVer x.writes (versOf R.hist key) x.began key).getD Ver.zero).value, .bool (standsB (seeVer x.writes (versOf R.hist key) x.began key))]) ∧ Keeps (fun _ => False) w w' := by
  obtain ⟨c0, c1, hm⟩ := h.works.work hx
  unfold seeVer
  cases hl : look x.writes key with
  | some v =>
    simp only [Option.getD_some, standsB]
    exact see_mine R.sb x.blk x.mb key _ v w c1 hm (by rw [look_map, hl]; rfl)
  | none =>
    obtain ⟨g1, g2⟩ := g.vers key
    exact see_past R.sb x.blk x.mb key _ x.began R.vm _ _ (versOf R.hist key) w c0 c1 hm (by rw [look_map, hl]; rfl) (h.cell 8) h.past.histMap rfl (h.past.slice key) g1 g2

/-- what Get answers -/
def getAns (R : Rep) (n : Int) (key : ByteArray) : ByteArray × Int :=
  match look R.works n with
  | none => (ByteArray.empty, 1)
  | some x =>
    if keyB key = true then
      if standsB (seeVer x.writes (versOf R.hist key) x.began key) = true then (((seeVer x.writes (versOf R.hist key) x.began key).getD Ver.zero).value, 0) else (ByteArray.empty, 1)
    else (ByteArray.empty, 2)

set_option maxRecDepth 100000 in
set_option maxHeartbeats 400000 in
theorem get_none (R : Rep) (n : Int) (key : ByteArray) (w : World) (h : StoreAt w R) (hn : look R.works n = none) :
    Calls Tryz.prog 18 #[.pointer (some ⟨R.sb, 0, none⟩), .int .i64 n, .string key] w fun e w' => e = .returned (.tuple #[.string ByteArray.empty, .int .i64 1]) ∧ Keeps (fun _ => False) w w' := by
  have hf := find_any R n w h
  rw [hn] at hf
  simp only [Option.map_none, Option.getD_none] at hf
  clear hn h
  go_enter Tryz.func18, Tryz.ntmps18
  go_wp2_with (go_at_call 47; go_must (refine hf.mono ?_; rintro e w1 ⟨rfl, rfl⟩))
  go_ret2
  exact ⟨rfl, Keeps.refl _ _⟩

set_option maxRecDepth 100000 in
set_option maxHeartbeats 400000 in
theorem get_some (R : Rep) (n : Int) (x : WkR) (key : ByteArray) (w : World) (h : StoreAt w R) (g : Good R) (hn : look R.works n = some x) (hk : key.size ≤ maxLen) :
    Calls Tryz.prog 18 #[.pointer (some ⟨R.sb, 0, none⟩), .int .i64 n, .string key] w fun e w' => e = .returned (.tuple #[.string (getAns R n key).1, .int .i64 (getAns R n key).2]) ∧ Keeps (fun _ => False) w w' := by
  have hf := find_any R n w h
  have hs := see_any R n x key w h g (look_mem hn)
  have hi := isKey_any key w hk
  have hnot : ∀ (x : Bool) (w : World), (Op.unary .not (.bool x)).run Tryz.prog w = .ok (.bool (!x)) w := fun _ _ => rfl
  rw [hn] at hf
  simp only [Option.map_some, Option.getD_some, workPtr] at hf hs
  unfold getAns
  rw [hn]
  simp only
  generalize seeVer x.writes (versOf R.hist key) x.began key = ov at hs ⊢
  clear hn h g hk
  generalize R.sb = sb at *
  cases hkb : keyB key with
  | false =>
    rw [hkb] at hi
    simp only [Bool.false_eq_true, if_false]
    clear hkb
    go_enter Tryz.func18, Tryz.ntmps18
    go_wp2_with (first
      | (go_at_call 47; go_must (refine hf.mono ?_; rintro e w1 ⟨rfl, rfl⟩))
      | (go_at_call 50; go_must (refine hi.mono ?_; rintro e w1 ⟨rfl, rfl⟩)))
    go_ret2
    exact ⟨rfl, Keeps.refl _ _⟩
  | true =>
    rw [hkb] at hi
    simp only [if_true]
    clear hkb
    cases hst : standsB ov with
    | false =>
      rw [hst] at hs
      simp only [Bool.false_eq_true, if_false]
      clear hst
      go_enter Tryz.func18, Tryz.ntmps18
      go_wp2_with (first
        | (go_at_call 47; go_must (refine hf.mono ?_; rintro e w1 ⟨rfl, rfl⟩))
        | (go_at_call 50; go_must (refine hi.mono ?_; rintro e w1 ⟨rfl, rfl⟩))
        | (go_at_call 51; go_must (refine hs.mono ?_; rintro e w1 ⟨rfl, hk1⟩)))
      go_ret2
      exact ⟨rfl, hk1⟩
    | true =>
      rw [hst] at hs
      simp only [if_true]
      clear hst
      go_enter Tryz.func18, Tryz.ntmps18
      go_wp2_with (first
        | (go_at_call 47; go_must (refine hf.mono ?_; rintro e w1 ⟨rfl, rfl⟩))
        | (go_at_call 50; go_must (refine hi.mono ?_; rintro e w1 ⟨rfl, rfl⟩))
        | (go_at_call 51; go_must (refine hs.mono ?_; rintro e w1 ⟨rfl, hk1⟩)))
      go_ret2
      exact ⟨rfl, hk1⟩

theorem get_any (R : Rep) (n : Int) (key : ByteArray) (w : World) (h : StoreAt w R) (g : Good R) (hk : key.size ≤ maxLen) :
    Calls Tryz.prog 18 #[.pointer (some ⟨R.sb, 0, none⟩), .int .i64 n, .string key] w fun e w' => e = .returned (.tuple #[.string (getAns R n key).1, .int .i64 (getAns R n key).2]) ∧ Keeps (fun _ => False) w w' := by
  cases hn : look R.works n with
  | none =>
    refine (get_none R n key w h hn).mono ?_
    rintro e w' ⟨he, hk⟩
    refine ⟨?_, hk⟩
    rw [he]
    unfold getAns
    rw [hn]
  | some x => exact get_some R n x key w h g hn hk

end Go.Proofs.YtpagenipflmlfaaGreatDoor
