import Derived.Test.YtfcocbcihhdbkaaM0
import Derived.Deep.RegionWith
import Derived.Deep.QuietTactic
import Derived.BigQuiet
import Derived.Deep.RegionHeld3
import Derived.Shelf.LaysM
import Derived.Shelf.SlGeneric
import Derived.Shelf.Strconv.Clone
import Derived.Shelf.Spec.SearchS
import Derived.Shelf.Spec.SlicesInsert
import Derived.Shelf.Spec.SlicesInsertGrow
import Derived.Shelf.Slices.Delete
import Derived.Shelf.Slices.Cells
import Derived.Shelf.SlIter.Nil
import Derived.Shelf.SortM.Plain
import Derived.Shelf.SortM.SortNone
import Derived.Ground.Names2Prog
import Derived.Ground.GgzProg
import Derived.Ground.SlgmProg
import Derived.Test.YtfcocbcihhdbkaaProg

/- What has been: upTo, At, Last. -/
namespace Go.Proofs.Ytfcocbcihhdbkaa
open Go.RowKit

/-- how many of a key's versions are not above a state -/
def upN (vs : List Ver) (t : Int) : Nat := (vs.takeWhile (fun v => decide (v.state ≤ t))).length

/-- versions in rising order of their states -/
def Rising (vs : List Ver) : Prop := vs.Pairwise (fun a b => a.state < b.state)

theorem upN_eq : ∀ {vs : List Ver} {t : Int} {r : Nat}, r ≤ vs.length → (∀ j (h : j < vs.length), j < r → vs[j].state ≤ t) → (∀ j (h : j < vs.length), r ≤ j → t < vs[j].state) → upN vs t = r
  | [], t, r, h, _, _ => by simp at h; subst h; rfl
  | v :: vs, t, 0, _, _, h2 => by
    have := h2 0 (by simp) (by omega)
    simp only [List.getElem_cons_zero] at this
    simp [upN, List.takeWhile_cons]
    omega
  | v :: vs, t, r + 1, h, h1, h2 => by
    have h0 := h1 0 (by simp) (by omega)
    simp only [List.getElem_cons_zero] at h0
    have ih := upN_eq (vs := vs) (t := t) (r := r) (by simpa using h) (fun j hj hr => h1 (j + 1) (by simpa using hj) (by omega)) (fun j hj hr => h2 (j + 1) (by simpa using hj) (by omega))
    unfold upN at ih ⊢
    simp [h0, ih]

theorem upN_le (vs : List Ver) (t : Int) : upN vs t ≤ vs.length := by
  unfold upN
  exact (List.takeWhile_sublist _).length_le

theorem cells_at : ∀ (vs : List Ver) (j : Nat) (r : Nat) (hj : j < vs.length), r < 3 → (vs.flatMap Ver.cells)[j * 3 + r]? = vs[j].cells[r]?
  | v :: vs, 0, r, _, hr => by
    simp only [List.flatMap_cons, Nat.zero_mul, Nat.zero_add, List.getElem_cons_zero]
    rw [List.getElem?_append_left (by simpa [Ver.cells] using hr)]
  | v :: vs, j + 1, r, hj, hr => by
    simp only [List.flatMap_cons, List.getElem_cons_succ]
    rw [List.getElem?_append_right (by simp [Ver.cells]; omega)]
    have e : (j + 1) * 3 + r - v.cells.length = j * 3 + r := by simp [Ver.cells]; omega
    rw [e]
    exact cells_at vs j r (by simpa using hj) hr

theorem cells_length (vs : List Ver) : (vs.flatMap Ver.cells).length = vs.length * 3 := by
  induction vs with
  | nil => rfl
  | cons v vs ih => simp only [List.flatMap_cons, List.length_append, ih, List.length_cons]; simp [Ver.cells]; omega

/-- A version's three cells, in a slice of versions. -/
theorem Row.ver {w : World} {g cap : Nat} {vs : List Ver} (h : Row w 79 3 (.slice (some ⟨g, 0, none⟩) vs.length cap) vs.length (vs.flatMap Ver.cells)) (j : Nat) (hj : j < vs.length) :
    w.cell? ⟨g, j * 3, none⟩ = some (.int .i64 vs[j].state) ∧ w.cell? ⟨g, j * 3 + 1, none⟩ = some (.string vs[j].value) ∧ w.cell? ⟨g, j * 3 + 2, none⟩ = some (.bool vs[j].gone) := by
  refine ⟨?_, ?_, ?_⟩
  · rw [h.cellAt (j * 3) (by omega)]; exact cells_at vs j 0 hj (by omega)
  · rw [h.cellAt (j * 3 + 1) (by omega)]; exact cells_at vs j 1 hj (by omega)
  · rw [h.cellAt (j * 3 + 2) (by omega)]; exact cells_at vs j 2 hj (by omega)

theorem Rising.le {vs : List Ver} (h : Rising vs) {i j : Nat} (hij : i ≤ j) (hj : j < vs.length) : vs[i].state ≤ vs[j].state := by
  rcases Nat.lt_or_eq_of_le hij with hl | rfl
  · exact Int.le_of_lt (List.pairwise_iff_getElem.1 h i j (by omega) hj hl)
  · exact Int.le_refl _

set_option maxRecDepth 100000 in
set_option maxHeartbeats 400000 in
/-- sort.Search among none -/
theorem search_zero (ab tb : Nat) (w : World) :
    Calls Try.prog 81 #[.int .i64 0, .func (.func 82) #[] #[.pointer (some ⟨ab, 0, none⟩), .pointer (some ⟨tb, 0, none⟩)]] w fun e w' => e = .returned (.int .i64 0) ∧ w' = w := by
  go_enter Try.func81, Try.ntmps81
  go_wp2
  go_loopw [5, 6] (fun x y wr => x = .int .i64 0 ∧ y = .int .i64 0 ∧ wr = w) (fun _ _ _ => 0)
  case atStart => exact ⟨rfl, rfl, rfl⟩
  case round =>
    obtain ⟨rfl, rfl, rfl⟩ := hrel
    go_wp2
    go_ret
    exact ⟨rfl, rfl⟩

set_option maxRecDepth 100000 in
set_option maxHeartbeats 400000 in
theorem upTo_nil (t : Int) (w : World) :
    Calls Try.prog 72 #[.slice none 0 0, .int .i64 t] w fun e w' => e = .returned (.int .i64 0) ∧ Keeps (fun _ => False) w w' := by
  have hmf : ∀ (fn : Fn) (first cap : Array Value) (w : World), (Instr.makeFunc fn first cap).run Try.prog w = .ok (.func fn first cap) w := fun _ _ _ _ => rfl
  go_enter Try.func72, Try.ntmps72
  go_wp2_with (go_at_call 81; go_must (refine (search_zero _ _ _).mono ?_; rintro e w1 ⟨rfl, rfl⟩))
  go_ret
  exact ⟨rfl, ((Keeps.refl _ w).al _).al _⟩

set_option maxRecDepth 100000 in
set_option maxHeartbeats 400000 in
theorem upTo_some (g cap : Nat) (vs : List Ver) (t : Int) (w : World) (h : Row w 79 3 (.slice (some ⟨g, 0, none⟩) vs.length cap) vs.length (vs.flatMap Ver.cells)) (hs : Rising vs) (hl : vs.length ≤ 1000000000000) :
    Calls Try.prog 72 #[.slice (some ⟨g, 0, none⟩) vs.length cap, .int .i64 t] w fun e w' => e = .returned (.int .i64 (upN vs t)) ∧ Keeps (fun _ => False) w w' := by
  have hmf : ∀ (fn : Fn) (first cap : Array Value) (w : World), (Instr.makeFunc fn first cap).run Try.prog w = .ok (.func fn first cap) w := fun _ _ _ _ => rfl
  have hh : ∀ (o1 o2 : Obj), Row ((w.alloc o1).alloc o2) 79 3 (.slice (some ⟨g, 0, none⟩) vs.length cap) vs.length (vs.flatMap Ver.cells) := fun o1 o2 => (h.kept (Keeps.alloc (fun _ => False) w o1) (fun _ _ h => h)).kept (Keeps.alloc (fun _ => False) _ o2) (fun _ _ h => h)
  have hc : ∀ (o1 o2 : Obj), ∀ j, j < vs.length → ((w.alloc o1).alloc o2).cell? ⟨g, j * 3, none⟩ = some (.int .i64 ((vs[j]?.map Ver.state).getD 0)) := fun o1 o2 j hj => by
    rw [((hh o1 o2).ver j hj).1]; simp [hj]
  have hst : ∀ i j, i ≤ j → j < vs.length → (vs[i]?.map Ver.state).getD 0 ≤ (vs[j]?.map Ver.state).getD 0 := fun i j hij hj => by
    have hi : i < vs.length := by omega
    simpa [hi, hj] using hs.le hij hj
  go_enter Try.func72, Try.ntmps72
  go_wp2_with (go_at_call 81; go_must (refine (search_any vs.length w.heap.size (w.heap.size + 1) g cap t (fun j => (vs[j]?.map Ver.state).getD 0) _ hl (by rw [World.cell?_alloc_past _ _ _ (by simp), World.cell?_alloc_at _ _ _ _ rfl]; rfl) (by rw [World.cell?_alloc_at _ _ _ _ (by simp)]; rfl) (hc _ _) hst).mono ?_; rintro e w1 ⟨r, rfl, hr1, hr2, hr3, hk1⟩))
  go_ret
  have e : upN vs t = r := upN_eq hr1 (fun j hj hjr => by simpa [hj] using hr2 j hjr) (fun j hj hjr => by simpa [hj] using hr3 j hjr hj)
  exact ⟨by rw [e]; rfl, (((Keeps.refl _ w).al _).al _).tr hk1 (fun _ h => h)⟩

/-- a key's versions -/
def versOf (hist : List (ByteArray × HsR)) (key : ByteArray) : List Ver := ((look hist key).map HsR.vers).getD []

/-- a key's version of a state -/
def atVer (vs : List Ver) (t : Int) : Option Ver := if upN vs t = 0 then none else vs[upN vs t - 1]?

def Ver.zero : Ver := ⟨0, ByteArray.empty, false⟩

theorem Try.zeroVersions (w : World) : (zeroValue 99).run Try.prog w = .ok (.slice none 0 0) w := by kernel_rfl

/-- The slice that stands at a key. -/
theorem PastAt.slice {w : World} {kv : Value} {keys : List ByteArray} {vm : Option Nat} {hist : List (ByteArray × HsR)} (h : PastAt w kv keys vm hist) (key : ByteArray) :
    Row w 79 3 ((look (hist.map fun p => (p.1, p.2.sl)) key).getD (.slice none 0 0)) (versOf hist key).length ((versOf hist key).flatMap Ver.cells) := by
  rw [look_map]
  unfold versOf
  cases hl : look hist key with
  | none => exact Row.nil _ _ _
  | some x => exact h.histEach (key, x) (look_mem hl)

/-- .. written out -/
theorem Row.shape {w : World} {e : TypeId} {size : Nat} {v : Value} {n : Nat} {xs : List Value} (h : Row w e size v n xs) : (v = .slice none 0 0 ∧ n = 0) ∨ ∃ g cap, v = .slice (some ⟨g, 0, none⟩) n cap ∧ n ≤ cap ∧ cap ≤ maxLen := by
  rcases h.2 with h | ⟨g, cap, cur, hv, _, h1, h2, _⟩
  · exact .inl h
  · exact .inr ⟨g, cap, hv, h1, h2⟩

theorem at_results (W : World) (b : Nat) (x y z : Value) (f : Bool) (tmps : Array Value) (h6 : tmps.getD 6 undef = .pointer (some ⟨b, 0, none⟩)) (h7 : tmps.getD 7 undef = .bool f) (h : W.heap[b]? = some (.cells #[x, y, z] 79 (0, 0))) :
    (results Try.f53 tmps).run Try.prog W = .ok (.tuple #[.agg #[x, y, z], .bool f]) W := by
  obtain ⟨hz0, hz1, hz2, -, -, -⟩ := three_cells h
  simp only [Array.getD_eq_getD_getElem?] at h6 h7
  simp [results, Try.results53, go_sem, h6, h7, hz0, hz1, hz2]

set_option maxRecDepth 100000 in
set_option maxHeartbeats 400000 in
theorem at_core (pb : Nat) (key : ByteArray) (t : Int) (vm : Option Nat) (l : List (ByteArray × Value)) (sl : Value) (vs : List Ver) (w : World) (hc : w.cell? ⟨pb, 8, none⟩ = some (.map vm)) (hm : OptMap Value.string w vm l) (hsl : (look l key).getD (.slice none 0 0) = sl)
    (hr : Row w 79 3 sl vs.length (vs.flatMap Ver.cells)) (hs : Rising vs) (hl : vs.length ≤ 1000000000000) :
    Calls Try.prog 53 #[.pointer (some ⟨pb, 7, none⟩), .string key, .int .i64 t] w fun e w' => e = .returned (.tuple #[((atVer vs t).getD Ver.zero).val, .bool (atVer vs t).isSome]) ∧ Keeps (fun _ => False) w w' := by
  have hlt : pb < w.heap.size := World.block_lt_of_cell? _ _ hc
  have HSL : Hid ((look l key).getD (.slice none 0 0) = sl) := hsl
  clear hsl
  have hmz : OptMap Value.string (w.alloc (.cells #[.int .i64 0, .string ByteArray.empty, .bool false] 79)) vm l := hm.kept (Keeps.alloc (fun _ => False) _ _) (fun _ _ h => h)
  rcases hr.shape with ⟨rfl, h0⟩ | ⟨g, cap, rfl, hcap1, hcap2⟩
  · obtain rfl : vs = [] := List.eq_nil_of_length_eq_zero h0
    clear hr h0
    go_enter Try.func53, Try.ntmps53
    go_wp2_with (first
      | (at_lookup; go_must (refine wpList_lookup_opt _ rfl _ _ 62 rfl 9 99 strKeyOk Try.underlying62 Try.underlying9 _ (Try.zeroVersions _) vm rfl key rfl l hmz ?_; rw [HSL.out]))
      | (go_at_call 72; go_must (refine (upTo_nil t _).mono ?_; rintro e w1 ⟨rfl, hk1⟩; obtain ⟨hx0, hx1, hx2, hy0, hy1, hy2⟩ := three_cells (box_kept hk1 (fun h => h)))))
    refine bodyPost_ret (at_results _ _ _ _ _ _ _ rfl rfl (heap_set3 (box_kept hk1 (fun h => h)) _ _ _)) rfl ⟨rfl, ?_⟩
    exact ((((Keeps.refl _ w).al _).tr hk1 (fun _ h => h)).st (.inl (Nat.le_refl _)) _ |>.st (.inl (Nat.le_refl _)) _).st (.inl (Nat.le_refl _)) _
  · have hu := upN_le vs t
    have hct := fun W hW => upTo_some g cap vs t W hW hs hl
    have hr1 : Row (w.alloc (.cells #[.int .i64 0, .string ByteArray.empty, .bool false] 79)) 79 3 (.slice (some ⟨g, 0, none⟩) vs.length cap) vs.length (vs.flatMap Ver.cells) := hr.kept (Keeps.alloc (fun _ => False) _ _) (fun _ _ h => h)
    have hcall := hct _ hr1
    clear hct
    rcases Nat.eq_zero_or_pos (upN vs t) with hz | hz
    · have HA : Hid (atVer vs t = none) := by unfold Hid atVer; rw [if_pos hz]
      rw [hz] at hcall
      clear hz hu hr1
      go_enter Try.func53, Try.ntmps53
      go_wp2_with (first
        | (at_lookup; go_must (refine wpList_lookup_opt _ rfl _ _ 62 rfl 9 99 strKeyOk Try.underlying62 Try.underlying9 _ (Try.zeroVersions _) vm rfl key rfl l hmz ?_; rw [HSL.out]))
        | (go_at_call 72; go_must (refine hcall.mono ?_; rintro e w1 ⟨rfl, hk1⟩; obtain ⟨hx0, hx1, hx2, hy0, hy1, hy2⟩ := three_cells (box_kept hk1 (fun h => h)))))
      rw [HA.out]
      refine bodyPost_ret (at_results _ _ _ _ _ _ _ rfl rfl (heap_set3 (box_kept hk1 (fun h => h)) _ _ _)) rfl ⟨rfl, ?_⟩
      exact ((((Keeps.refl _ w).al _).tr hk1 (fun _ h => h)).st (.inl (Nat.le_refl _)) _ |>.st (.inl (Nat.le_refl _)) _).st (.inl (Nat.le_refl _)) _
    · obtain ⟨m, hm⟩ : ∃ m, upN vs t = m + 1 := ⟨upN vs t - 1, by omega⟩
      have hmv : m < vs.length := by omega
      have HA : Hid (atVer vs t = some vs[m]) := by unfold Hid atVer; rw [if_neg (by omega), hm]; simp [hmv]
      have HR : Hid (Row (w.alloc (.cells #[.int .i64 0, .string ByteArray.empty, .bool false] 79)) 79 3 (.slice (some ⟨g, 0, none⟩) vs.length cap) vs.length (vs.flatMap Ver.cells)) := hr1
      rw [hm] at hcall
      clear hm hz hu hr1
      go_enter Try.func53, Try.ntmps53
      go_wp2_with (first
        | (at_lookup; go_must (refine wpList_lookup_opt _ rfl _ _ 62 rfl 9 99 strKeyOk Try.underlying62 Try.underlying9 _ (Try.zeroVersions _) vm rfl key rfl l hmz ?_; rw [HSL.out]))
        | (go_at_call 72; go_must (refine hcall.mono ?_; rintro e w1 ⟨rfl, hk1⟩; obtain ⟨hx0, hx1, hx2, hy0, hy1, hy2⟩ := three_cells (box_kept hk1 (fun h => h)); obtain ⟨hv0, hv1, hv2⟩ := (HR.out.kept hk1 (fun _ _ h => h)).ver m hmv)))
      rw [HA.out]
      refine bodyPost_ret (at_results _ _ _ _ _ _ _ rfl rfl (heap_set3 (box_kept hk1 (fun h => h)) _ _ _)) rfl ⟨rfl, ?_⟩
      exact ((((Keeps.refl _ w).al _).tr hk1 (fun _ h => h)).st (.inl (Nat.le_refl _)) _ |>.st (.inl (Nat.le_refl _)) _).st (.inl (Nat.le_refl _)) _

end Go.Proofs.Ytfcocbcihhdbkaa

/- Last, see, Get. -/
namespace Go.Proofs.Ytfcocbcihhdbkaa
open Go.RowKit

/-- the last state that has put or deleted a key -/
def lastOf (vs : List Ver) : Int := (vs.getLast?.map Ver.state).getD 0

set_option maxRecDepth 100000 in
set_option maxHeartbeats 400000 in
theorem last_core (pb : Nat) (key : ByteArray) (vm : Option Nat) (l : List (ByteArray × Value)) (sl : Value) (vs : List Ver) (w : World) (hc : w.cell? ⟨pb, 8, none⟩ = some (.map vm)) (hm : OptMap Value.string w vm l) (hsl : (look l key).getD (.slice none 0 0) = sl)
    (hr : Row w 79 3 sl vs.length (vs.flatMap Ver.cells)) (hl : vs.length ≤ 1000000000000) :
    Calls Try.prog 51 #[.pointer (some ⟨pb, 7, none⟩), .string key] w fun e w' => e = .returned (.int .i64 (lastOf vs)) ∧ w' = w := by
  have HSL : Hid ((look l key).getD (.slice none 0 0) = sl) := hsl
  clear hsl
  rcases hr.shape with ⟨rfl, h0⟩ | ⟨g, cap, rfl, hcap1, hcap2⟩
  · obtain rfl : vs = [] := List.eq_nil_of_length_eq_zero h0
    clear hr h0
    go_enter Try.func51, Try.ntmps51
    go_wp2_with (at_lookup; go_must (refine wpList_lookup_opt _ rfl _ _ 62 rfl 9 99 strKeyOk Try.underlying62 Try.underlying9 _ (Try.zeroVersions _) vm rfl key rfl l hm ?_; rw [HSL.out]))
    go_ret
    exact ⟨rfl, rfl⟩
  · rcases Nat.eq_zero_or_pos vs.length with hz | hz
    · obtain rfl : vs = [] := List.eq_nil_of_length_eq_zero hz
      clear hr hz
      go_enter Try.func51, Try.ntmps51
      go_wp2_with (at_lookup; go_must (refine wpList_lookup_opt _ rfl _ _ 62 rfl 9 99 strKeyOk Try.underlying62 Try.underlying9 _ (Try.zeroVersions _) vm rfl key rfl l hm ?_; rw [HSL.out]))
      go_ret
      exact ⟨rfl, rfl⟩
    · obtain ⟨m, hm1⟩ : ∃ m, vs.length = m + 1 := ⟨vs.length - 1, by omega⟩
      have hmv : m < vs.length := by omega
      have HL : Hid (lastOf vs = vs[m].state) := by unfold Hid lastOf; rw [List.getLast?_eq_getElem?, hm1]; simp [hmv]
      obtain ⟨hv0, -, -⟩ := hr.ver m hmv
      have hcap : m + 1 ≤ cap := by omega
      have hl' : m + 1 ≤ 1000000000000 := by omega
      rw [hm1] at HSL
      rw [HL.out]
      generalize vs[m].state = st at hv0
      clear hr hl hz hcap1 HL hmv hm1
      go_enter Try.func51, Try.ntmps51
      go_wp2_with (at_lookup; go_must (refine wpList_lookup_opt _ rfl _ _ 62 rfl 9 99 strKeyOk Try.underlying62 Try.underlying9 _ (Try.zeroVersions _) vm rfl key rfl l hm ?_; rw [HSL.out]))
      go_ret
      exact ⟨rfl, rfl⟩

/-- what a work sees under a key: what it has written, else the version of the state at which it began -/
def seeVer (writes : List (ByteArray × Ver)) (vs : List Ver) (began : Int) (key : ByteArray) : Option Ver :=
  match look writes key with
  | some v => some v
  | none => atVer vs began

/-- does it stand there? -/
def standsB : Option Ver → Bool
  | some v => !v.gone
  | none => false

/-- An open work's cells. -/
theorem WorksAt.work {w : World} {R : Rep} (h : WorksAt w R) {n : Int} {x : WkR} (hx : (n, x) ∈ R.works) :
    w.cell? ⟨x.blk, 0, none⟩ = some (.int .i64 x.began) ∧ w.cell? ⟨x.blk, 1, none⟩ = some (.map (some x.mb)) ∧ MapAt Value.string w x.mb (x.writes.map fun q => (q.1, q.2.val)) := by
  obtain ⟨h1, h2⟩ := h.worksEach (n, x) hx
  exact ⟨cell_of_heap h1 0, cell_of_heap h1 1, h2⟩

set_option maxRecDepth 100000 in
set_option maxHeartbeats 400000 in
theorem see_mine (sb wb mb : Nat) (key : ByteArray) (l : List (ByteArray × Value)) (v : Ver) (w : World) (hc1 : w.cell? ⟨wb, 1, none⟩ = some (.map (some mb))) (hm : MapAt Value.string w mb l) (hv : look l key = some v.val) :
    Calls Try.prog 34 #[.pointer (some ⟨sb, 0, none⟩), .pointer (some ⟨wb, 0, none⟩), .string key] w fun e w' => e = .returned (.tuple #[.string v.value, .bool (!v.gone)]) ∧ Keeps (fun _ => False) w w' := by
  have HV : Hid (look l key = some v.val) := hv
  clear hv
  have hnot : ∀ (x : Bool) (w : World), (Op.unary .not (.bool x)).run Try.prog w = .ok (.bool (!x)) w := fun _ _ => rfl
  go_enter Try.func34, Try.ntmps34
  go_wp2_with (at_lookup; go_must (refine wpList_lookup_ok_at _ rfl _ _ 74 rfl 9 79 strKeyOk Try.underlying74 Try.underlying9 _ (Try.zeroVersion _) mb rfl key rfl l hm ?_; rw [HV.out]; simp only [Option.getD_some, Option.isSome_some, Ver.val]))
  go_region
  go_wp2
  go_ret2
  exact ⟨rfl, ((Keeps.refl _ w).al _).dr⟩

set_option maxRecDepth 100000 in
set_option maxHeartbeats 800000 in
theorem see_past (sb wb mb : Nat) (key : ByteArray) (l : List (ByteArray × Value)) (began : Int) (vm : Option Nat) (lp : List (ByteArray × Value)) (sl : Value) (vs : List Ver) (w : World) (hc0 : w.cell? ⟨wb, 0, none⟩ = some (.int .i64 began)) (hc1 : w.cell? ⟨wb, 1, none⟩ = some (.map (some mb))) (hm : MapAt Value.string w mb l) (hv : look l key = none)
    (hc : w.cell? ⟨sb, 8, none⟩ = some (.map vm)) (hmp : OptMap Value.string w vm lp) (hsl : (look lp key).getD (.slice none 0 0) = sl) (hr : Row w 79 3 sl vs.length (vs.flatMap Ver.cells)) (hs : Rising vs) (hl : vs.length ≤ 1000000000000) :
    Calls Try.prog 34 #[.pointer (some ⟨sb, 0, none⟩), .pointer (some ⟨wb, 0, none⟩), .string key] w fun e w' => e = .returned (.tuple #[.string ((atVer vs began).getD Ver.zero).value, .bool (standsB (atVer vs began))]) ∧ Keeps (fun _ => False) w w' := by
  have HV : Hid (look l key = none) := hv
  have HSL : Hid ((look lp key).getD (.slice none 0 0) = sl) := hsl
  have hlt : wb < w.heap.size := World.block_lt_of_cell? _ _ hc0
  have hlt2 : sb < w.heap.size := World.block_lt_of_cell? _ _ hc
  clear hv hsl
  have hnot : ∀ (x : Bool) (w : World), (Op.unary .not (.bool x)).run Try.prog w = .ok (.bool (!x)) w := fun _ _ => rfl
  have hat := fun W (hk : Keeps (fun _ => False) w W) => at_core sb key began vm lp sl vs W (hk.cell (p := ⟨sb, 8, none⟩) hc (fun h => h)) (hmp.kept hk (fun _ _ h => h)) HSL.out (hr.kept hk (fun _ _ h => h)) hs hl
  have HAT : Hid (∀ W, Keeps (fun _ => False) w W → Calls Try.prog 53 #[.pointer (some ⟨sb, 7, none⟩), .string key, .int .i64 began] W fun e w' => e = .returned (.tuple #[((atVer vs began).getD Ver.zero).val, .bool (atVer vs began).isSome]) ∧ Keeps (fun _ => False) W w') := hat
  clear hat hr hs hl hmp
  cases hov : atVer vs began with
  | none =>
    rw [hov] at HAT
    simp only [Option.getD_none, Option.isSome_none, Ver.val, Ver.zero, standsB] at HAT ⊢
    clear hov
    go_enter Try.func34, Try.ntmps34
    go_wp2_with (at_lookup; go_must (refine wpList_lookup_ok_at _ rfl _ _ 74 rfl 9 79 strKeyOk Try.underlying74 Try.underlying9 _ (Try.zeroVersion _) mb rfl key rfl l hm ?_; rw [HV.out]; simp only [Option.getD_none, Option.isSome_none]))
    go_region_with (go_at_call 53; go_must (refine (HAT.out _ (((Keeps.refl _ w).al _).dr)).mono ?_; rintro e w1 ⟨rfl, hk1⟩; obtain ⟨hx0, hx1, hx2, hy0, hy1, hy2⟩ := three_cells (box_kept ((Keeps.drew (fun _ => False) _).tr hk1 (fun _ h => h)) (fun h => h))))
    simp only [List.getElem_toArray, List.getElem_cons_succ, List.getElem_cons_zero, Act.put, List.setIfInBounds_toArray, List.set_cons_succ, List.set_cons_zero]
    go_wp2
    go_region
    go_wp2
    go_ret2
    refine ⟨rfl, ?_⟩
    exact ((((((Keeps.refl _ w).al _).dr).tr hk1 (fun _ h => h)).st (.inl (Nat.le_refl _)) _ |>.st (.inl (Nat.le_refl _)) _).st (.inl (Nat.le_refl _)) _).dr
  | some v =>
    rw [hov] at HAT
    simp only [Option.getD_some, Option.isSome_some, Ver.val, standsB] at HAT ⊢
    clear hov
    go_enter Try.func34, Try.ntmps34
    go_wp2_with (at_lookup; go_must (refine wpList_lookup_ok_at _ rfl _ _ 74 rfl 9 79 strKeyOk Try.underlying74 Try.underlying9 _ (Try.zeroVersion _) mb rfl key rfl l hm ?_; rw [HV.out]; simp only [Option.getD_none, Option.isSome_none]))
    go_region_with (go_at_call 53; go_must (refine (HAT.out _ (((Keeps.refl _ w).al _).dr)).mono ?_; rintro e w1 ⟨rfl, hk1⟩; obtain ⟨hx0, hx1, hx2, hy0, hy1, hy2⟩ := three_cells (box_kept ((Keeps.drew (fun _ => False) _).tr hk1 (fun _ h => h)) (fun h => h))))
    simp only [List.getElem_toArray, List.getElem_cons_succ, List.getElem_cons_zero, Act.put, List.setIfInBounds_toArray, List.set_cons_succ, List.set_cons_zero]
    go_wp2
    go_region
    go_wp2
    go_ret2
    refine ⟨rfl, ?_⟩
    exact ((((((Keeps.refl _ w).al _).dr).tr hk1 (fun _ h => h)).st (.inl (Nat.le_refl _)) _ |>.st (.inl (Nat.le_refl _)) _).st (.inl (Nat.le_refl _)) _).dr

end Go.Proofs.Ytfcocbcihhdbkaa

/- Begin. -/
namespace Go.Proofs.Ytfcocbcihhdbkaa
open Go.RowKit

/-- The store behind a change of its first three numbers. -/
theorem StoreAt.nums {w w' : World} {R : Rep} {S : Nat → Prop} (h : StoreAt w R) (hk : Keeps S w w') (hS : ∀ k, k ∈ R.fpWorks ++ R.fpPast → ¬ S k) (now floor begun : Int)
    (ht : w'.heap[R.sb]? = some (.cells (topCells { R with now, floor, begun }) 66 (0, 0))) : StoreAt w' { R with now, floor, begun } := by
  have hw := h.works.kept hk (fun k hk' => hS k (List.mem_append_left _ hk'))
  have hp := h.past.kept hk (fun k hk' => hS k (List.mem_append_right _ hk'))
  exact ⟨ht, ⟨hw.worksMap, hw.worksEach, hw.pinsMap, hw.copyMap⟩, hp, h.nodup⟩

theorem StoreAt.set {w : World} {R R' : Rep} (h : StoreAt w R) (hsb : R'.sb = R.sb) {i : Nat} {v : Value} (he : (topCells R).setIfInBounds i v = topCells R') : (w.setCell ⟨R.sb, i, none⟩ v).heap[R'.sb]? = some (.cells (topCells R') 66 (0, 0)) := by
  rw [hsb, heap_setCell_same h.top, he]

theorem fp_lt {w : World} {R : Rep} (h : StoreAt w R) : ∀ k ∈ R.fp, k < w.heap.size := by
  intro k hk
  simp only [Rep.fp, Rep.fpWorks, Rep.fpPast, List.mem_cons, List.mem_append, List.mem_flatMap, Option.mem_toList] at hk
  rcases hk with rfl | ((h1 | h1) | ⟨p, hp, h1⟩) | ((h1 | h1) | ⟨p, hp, h1⟩)
  · exact h.lt
  · exact h.works.worksMap.lt h1
  · simp only [pcOf, List.mem_append, Option.mem_toList] at h1
    exact h1.elim (fun h1 => h.works.pinsMap.lt h1) (fun h1 => h.works.copyMap.lt h1)
  · obtain ⟨h2, h3⟩ := h.works.worksEach p hp
    simp only [List.not_mem_nil, or_false] at h1
    rcases h1 with rfl | rfl
    · exact (Array.getElem?_eq_some_iff.1 h2).1
    · exact h3.lt
  · exact h.past.keysRow.lt h1
  · exact h.past.histMap.lt h1
  · exact (h.past.histEach p hp).lt h1

set_option maxRecDepth 100000 in
set_option maxHeartbeats 800000 in
theorem begin_full (R : Rep) (w : World) (h : StoreAt w R) (hl : R.works.length = 8) :
    Calls Try.prog 7 #[.pointer (some ⟨R.sb, 0, none⟩)] w fun e w' => e = .returned (.tuple #[.int .i64 0, .int .i64 3]) ∧ Keeps (fun _ => False) w w' := by
  obtain ⟨-, -, -, h3, -, -, -, -, -⟩ := h.seven
  have hlt := h.lt
  have hw : OptMap (Value.int .i64) w R.wm (R.works.map fun p => (p.1, workPtr p.2)) := h.works.worksMap
  have hmf : ∀ (fn : Fn) (first cap : Array Value) (w : World), (Instr.makeFunc fn first cap).run Try.prog w = .ok (.func fn first cap) w := fun _ _ _ _ => rfl
  have HL : Hid ((R.works.map fun p => (p.1, workPtr p.2)).length = 8) := by unfold Hid; simp [hl]
  clear hl h
  generalize R.sb = sb at *
  generalize R.works.map (fun p => (p.1, workPtr p.2)) = l at *
  go_enter_defers Try.func7, Try.ntmps7
  go_wp2_with (at_len; go_must (refine wpList_len_opt _ rfl _ 59 rfl 3 73 Try.underlying59 R.wm rfl l ((hw.kept (Keeps.alloc (fun _ => False) _ _) (fun _ _ h => h)).kept (Keeps.alloc (fun _ => False) _ _) (fun _ _ h => h)) ?_; rw [HL.out]))
  refine leaves_cons (f := 21) (args := #[.pointer (some ⟨w.heap.size + 1, 0, none⟩), .pointer (some ⟨w.heap.size, 0, none⟩)]) (by simp) (by simp [go_sem]) ?_
  refine (begin1_none (w.heap.size + 1) w.heap.size 3 (by omega) _ ?_ ?_).mono ?_
  · simp [go_sem]
  · simp [go_sem]
  rintro e u' w'' ⟨rfl, rfl, hk⟩
  have hb : w''.cell? ⟨w.heap.size, 0, none⟩ = some (.int .i64 3) := hk.cell (p := ⟨w.heap.size, 0, none⟩) (by simp [go_sem]) (fun h => h)
  simp [Leaves, settle, results, Try.results7, go_sem, hb]
  exact (((Keeps.refl _ w).al _).al _).tr hk (fun _ h => h)

theorem chg_new (w : World) (o : Obj) : Chg ((w.alloc o).alloc (.cells #[.slice none 0 0] 56)) (w.heap.size + 1) [] [w.heap.size + 1] := by
  refine ⟨.slice none 0 0, ?_, Row.nil _ _ _, by simp [Value.ownBlock], rfl⟩
  have := heap_new (w.alloc o) (.cells #[.slice none 0 0] 56)
  simpa using this

theorem eqMap_some (b : Nat) (w : World) : (binOp BinOp.eql 59 (.map (some b)) (.map none)).run Try.prog w = .ok (.bool false) w := by kernel_rfl
theorem eqMap_none (w : World) : (binOp BinOp.eql 59 (.map none) (.map none)).run Try.prog w = .ok (.bool true) w := by kernel_rfl

/-- Ahead of a region that draws, in a function that defers: it ends as it should. -/
theorem wp_normal {P : Program} {c : Code} {K : Act → World → Prop} {Q : Exit → Act → World → Prop} {a : Act} {w : World} (h : c.wp P (Exit.then K (fun _ _ _ => False)) a w) : c.wp P (Exit.then K Q) a w :=
  wp_mono h (fun e _ _ hq => by cases e <;> first | exact hq | exact hq.elim)

/-- Behind an assignment to the number of the last work. -/
theorem StoreAt.begunSet {w w' : World} {R : Rep} {C : List Nat} {n : Int} (h : StoreAt w R) (hk : Keeps (fun k => k ∈ C ∨ k = R.sb) w w') (hC : ∀ k ∈ C, k ∉ R.fp) (hb : w'.heap[R.sb]? = (w.setCell ⟨R.sb, 2, none⟩ (.int .i64 n)).heap[R.sb]?) : StoreAt w' { R with begun := n } := by
  refine h.nums hk (fun k hk' => ?_) R.now R.floor n ?_
  · rintro (hc | rfl)
    · exact hC k hc (List.mem_cons_of_mem _ hk')
    · have := h.nodup
      simp only [Rep.fp, List.nodup_cons] at this
      exact this.1 hk'
  · rw [hb]
    exact h.set (R' := { R with begun := n }) (i := 2) (v := .int .i64 n) rfl (by simp [topCells])

/-- What Begin leaves. -/
def BeginPost (R : Rep) (w w' : World) : Prop :=
  ∃ b m wm, StoreAt w' { R with begun := R.begun + 1, wm, works := R.works ++ [(R.begun + 1, ⟨b, m, R.now, []⟩)] } ∧ Keeps (· ∈ R.fp) w w' ∧ (wm = R.wm ∨ ∃ q, wm = some q ∧ w.heap.size ≤ q) ∧ w.heap.size ≤ b ∧ w.heap.size ≤ m

theorem workPtr_mk (b m : Nat) (n : Int) (l : List (ByteArray × Ver)) : workPtr ⟨b, m, n, l⟩ = .pointer (some ⟨b, 0, none⟩) := rfl

/-- A new work enters the map of the open ones. -/
theorem StoreAt.entered {w1 w2 : World} {R : Rep} {C : List Nat} {b0 : Nat} {n now : Int} (h : StoreAt w1 R) (hwm : R.wm = some b0) (hC : ∀ k ∈ C, k ∉ R.fp ∧ k ≠ w1.heap.size ∧ k ≠ w1.heap.size + 1) (hn : look R.works n = none)
    (hk : Keeps (fun k => k ∈ C ∨ k = b0) ((w1.alloc (.map #[] 0)).alloc (.cells #[.int .i64 now, .map (some w1.heap.size)] 76)).drew w2)
    (hm : MapAt (Value.int .i64) w2 b0 (put (R.works.map fun p => (p.1, workPtr p.2)) n (.pointer (some ⟨w1.heap.size + 1, 0, none⟩)))) :
    StoreAt w2 { R with works := R.works ++ [(n, ⟨w1.heap.size + 1, w1.heap.size, now, []⟩)] } ∧ Keeps (fun k => k ∈ C ∨ k = b0) w1 w2 := by
  have hk0 : Keeps (fun k => k ∈ C ∨ k = b0) w1 w2 := ((((Keeps.refl _ w1).al _).al _).dr).tr hk (fun _ h => h)
  have hnd := h.nodup
  have hlt := fp_lt h
  have hb0 : b0 ∈ R.fp := by simp [Rep.fp, Rep.fpWorks, hwm]
  have hb0w : b0 < w1.heap.size := hlt _ hb0
  have hfpW : R.fpWorks = b0 :: (pcOf R.pm R.cm ++ R.works.flatMap (fun p => [p.2.blk, p.2.mb])) := by simp [Rep.fpWorks, hwm]
  have hnb : ∀ k, k ∈ R.sb :: ((pcOf R.pm R.cm ++ R.works.flatMap (fun p => [p.2.blk, p.2.mb])) ++ R.fpPast) → ¬ (k ∈ C ∨ k = b0) := by
    intro k hk'
    rintro (hc | rfl)
    · refine (hC k hc).1 ?_
      simp only [Rep.fp, hfpW, List.mem_cons, List.mem_append] at hk' ⊢
      rcases hk' with h | h | h
      · exact .inl h
      · exact .inr (.inl (.inr h))
      · exact .inr (.inr h)
    · simp only [Rep.fp, hfpW, List.cons_append, List.nodup_cons, List.mem_cons, List.mem_append, not_or] at hnd
      simp only [List.mem_cons, List.mem_append] at hk'
      rcases hk' with h | h | h
      · exact hnd.1.1 h.symm
      · rcases h with h | h
        · exact hnd.2.1.1.1 h
        · exact hnd.2.1.1.2 h
      · exact hnd.2.1.2 h
  refine ⟨⟨?_, ⟨?_, ?_, ?_, ?_⟩, ?_, ?_⟩, hk0⟩
  · exact (hk0.block R.sb h.lt (hnb _ (by simp))).trans h.top
  · have e : (R.works ++ [(n, (⟨w1.heap.size + 1, w1.heap.size, now, []⟩ : WkR))]).map (fun p => (p.1, workPtr p.2)) = put (R.works.map fun p => (p.1, workPtr p.2)) n (.pointer (some ⟨w1.heap.size + 1, 0, none⟩)) := by
      rw [put_none (by rw [look_map, hn]; rfl)]
      simp [workPtr]
    show OptMap _ _ R.wm _
    rw [e, hwm]
    exact hm
  · intro p hp
    rcases List.mem_append.1 hp with hp | hp
    · obtain ⟨h1, h2⟩ := h.works.worksEach p hp
      have hm1 : p.2.blk ∈ R.works.flatMap (fun p => [p.2.blk, p.2.mb]) := List.mem_flatMap.2 ⟨p, hp, by simp⟩
      have hm2 : p.2.mb ∈ R.works.flatMap (fun p => [p.2.blk, p.2.mb]) := List.mem_flatMap.2 ⟨p, hp, by simp⟩
      exact ⟨(hk0.block _ (Array.getElem?_eq_some_iff.1 h1).1 (hnb _ (by simp [hm1]))).trans h1, h2.kept hk0 (hnb _ (by simp [hm2]))⟩
    · simp only [List.mem_singleton] at hp
      subst hp
      have hd : (((w1.alloc (.map #[] 0)).alloc (.cells #[.int .i64 now, .map (some w1.heap.size)] 76)).drew).heap[w1.heap.size + 1]? = some (.cells #[.int .i64 now, .map (some w1.heap.size)] 76 (0, 0)) := by
        have := heap_new (w1.alloc (.map #[] 0)) (.cells #[.int .i64 now, .map (some w1.heap.size)] 76)
        simpa [World.drew] using this
      refine ⟨?_, ?_⟩
      · rw [hk.block (w1.heap.size + 1) (by simp) ?_]
        · exact hd
        · rintro (hc | hc)
          · exact (hC _ hc).2.2 rfl
          · omega
      · have h0 : MapAt Value.string (w1.alloc (.map #[] 0)) w1.heap.size [] := MapAt.made _ _
        have h1 : MapAt Value.string (((w1.alloc (.map #[] 0)).alloc (.cells #[.int .i64 now, .map (some w1.heap.size)] 76)).drew) w1.heap.size [] := h0.kept (((Keeps.refl (fun _ => False) _).al _).dr) (fun h => h)
        refine h1.kept hk ?_
        rintro (hc | hc)
        · exact (hC _ hc).2.1 rfl
        · omega
  · exact h.works.pinsMap.kept hk0 (fun b hb => hnb _ (by simp [pcOf, hb]))
  · exact h.works.copyMap.kept hk0 (fun b hb => hnb _ (by simp [pcOf, hb]))
  · exact h.past.kept hk0 (fun k hk' => hnb _ (List.mem_cons_of_mem _ (List.mem_append_right _ hk')))
  · have e : Rep.fp { R with works := R.works ++ [(n, ⟨w1.heap.size + 1, w1.heap.size, now, []⟩)] } = R.sb :: ((R.wm.toList ++ pcOf R.pm R.cm ++ (R.works.flatMap (fun p => [p.2.blk, p.2.mb]) ++ [w1.heap.size + 1, w1.heap.size])) ++ R.fpPast) := by
      simp [Rep.fp, Rep.fpWorks, Rep.fpPast]
    rw [e]
    have hperm : (R.sb :: ((R.wm.toList ++ pcOf R.pm R.cm ++ (R.works.flatMap (fun p => [p.2.blk, p.2.mb]) ++ [w1.heap.size + 1, w1.heap.size])) ++ R.fpPast)).Perm ([w1.heap.size + 1, w1.heap.size] ++ R.fp) := by
      simp only [Rep.fp, Rep.fpWorks]
      refine List.Perm.trans ?_ (List.perm_middle.symm)
      refine List.Perm.cons _ ?_
      rw [← List.append_assoc, List.append_assoc _ _ R.fpPast]
      refine List.Perm.trans (List.perm_append_comm_assoc _ _ _) ?_
      simp [List.append_assoc]
    rw [hperm.nodup_iff]
    simp only [List.cons_append, List.nil_append, List.nodup_cons, List.mem_cons, not_or]
    exact ⟨⟨by omega, fun h' => by have := hlt _ h'; omega⟩, fun h' => by have := hlt _ h'; omega, hnd⟩

theorem mem_fp_entered {R : Rep} {c n now : Int} {b m k : Nat} (hk : k ∈ Rep.fp { R with begun := c, works := R.works ++ [(n, ⟨b, m, now, []⟩)] }) : k ∈ R.fp ∨ k = b ∨ k = m := by
  have e : Rep.fp { R with begun := c, works := R.works ++ [(n, ⟨b, m, now, []⟩)] } = R.sb :: ((R.wm.toList ++ pcOf R.pm R.cm ++ (R.works.flatMap (fun p => [p.2.blk, p.2.mb]) ++ [b, m])) ++ R.fpPast) := by
    simp [Rep.fp, Rep.fpWorks, Rep.fpPast]
  rw [e] at hk
  simp only [List.mem_cons, List.mem_append, List.not_mem_nil, or_false] at hk
  simp only [Rep.fp, Rep.fpWorks, List.mem_cons, List.mem_append]
  rcases hk with h | ((h | h) | (h | h | h)) | h
  · exact .inl (.inl h)
  · exact .inl (.inr (.inl (.inl (.inl h))))
  · exact .inl (.inr (.inl (.inl (.inr h))))
  · exact .inl (.inr (.inl (.inr h)))
  · exact .inr (.inl h)
  · exact .inr (.inr h)
  · exact .inl (.inr (.inr h))

set_option maxRecDepth 100000 in
set_option maxHeartbeats 1000000 in
theorem begin_some (R : Rep) (w : World) (h : StoreAt w R) (b0 : Nat) (hwm : R.wm = some b0) (hl : R.works.length < 8) (hb1 : 0 ≤ R.begun) (hb2 : R.begun < 1152921504606846976) (hn : look R.works (R.begun + 1) = none) :
    Calls Try.prog 7 #[.pointer (some ⟨R.sb, 0, none⟩)] w fun e w' => e = .returned (.tuple #[.int .i64 (R.begun + 1), .int .i64 0]) ∧ BeginPost R w w' := by
  obtain ⟨h0, -, h2, h3, -, -, -, -, -⟩ := h.seven
  have hlt := h.lt
  have hw : MapAt (Value.int .i64) w b0 (R.works.map fun p => (p.1, workPtr p.2)) := by have := h.works.worksMap; rw [hwm] at this; exact this
  have hmf : ∀ (fn : Fn) (first cap : Array Value) (w : World), (Instr.makeFunc fn first cap).run Try.prog w = .ok (.func fn first cap) w := fun _ _ _ _ => rfl
  have hmm := @run_makeMap Try.prog
  have hem := eqMap_some
  rw [hwm] at h3
  have HL : Hid ((R.works.map fun p => (p.1, workPtr p.2)).length < 8) := by unfold Hid; simpa using hl
  have HN : Hid (look (R.works.map fun p => (p.1, workPtr p.2)) (R.begun + 1) = none) := by unfold Hid; rw [look_map, hn]; rfl
  have HST : Hid (StoreAt w R) := h
  have HWM : Hid (R.wm = some b0) := hwm
  have HNF : Hid (R.sb ≠ b0) := by
    have := h.nodup
    simp only [Rep.fp, Rep.fpWorks, hwm, Option.toList_some, List.nodup_cons] at this
    intro e
    exact this.1 (by simp [e])
  have HWR : Hid (IntKind.i64.wrap (R.begun + 1) = R.begun + 1) := IntWalk.i64_in _ ⟨by omega, by omega⟩
  clear hl h hn hwm
  obtain ⟨n8, hn8⟩ : ∃ n8 : Nat, (R.works.map fun p => (p.1, workPtr p.2)).length = n8 := ⟨_, rfl⟩
  have hn8' : n8 < 8 := by rw [← hn8]; exact HL.out
  have HN8 : Hid ((R.works.map fun p => (p.1, workPtr p.2)).length = n8) := hn8
  clear hn8
  go_enter_defers Try.func7, Try.ntmps7
  go_wp2_with (at_len; go_must (refine wpList_len_at _ rfl _ 59 rfl 3 73 Try.underlying59 b0 rfl _ ((hw.kept (Keeps.alloc (fun _ => False) _ _) (fun h => h)).kept (Keeps.alloc (fun _ => False) _ _) (fun h => h)) ?_; rw [HN8.out]))
  refine wp_normal ?_
  go_region_with (go_at_call 24; go_must (refine (assign_int (w.heap.size + 1) [] [w.heap.size + 1] R.sb 2 R.begun (IntKind.i64.wrap (R.begun + 1)) _ ((chg_new w _).kept (Keeps.drew (fun _ => False) _) (fun _ _ h => h)) ((HST.out.kept (((Keeps.refl (fun _ => False) w).al _).al _).dr (fun _ _ h => h)).cell 2) ((HST.out.kept (((Keeps.refl (fun _ => False) w).al _).al _).dr (fun _ _ h => h)).frozen 2) (by simp; omega) (by simp)).mono ?_; rintro e w1 ⟨rfl, fs1, C1, hf1, hC1, hk1, hC1', hb1⟩; rw [HWR.out] at hb1; have HB1 : Hid (w1.heap[R.sb]? = _) := hb1; clear hb1))
  have HS1 : Hid (StoreAt w1 { R with begun := R.begun + 1 }) := StoreAt.begunSet (HST.out.kept (((Keeps.refl (fun _ => False) w).al _).al _).dr (fun _ _ h => h)) hk1 (fun k hk hf => by have := fp_lt HST.out k hf; simp at hk; omega) HB1.out
  have g0 : w1.cell? ⟨R.sb, 0, none⟩ = some (.int .i64 R.now) := HS1.out.cell 0
  have g2 : w1.cell? ⟨R.sb, 2, none⟩ = some (.int .i64 (R.begun + 1)) := HS1.out.cell 2
  have g3 : w1.cell? ⟨R.sb, 3, none⟩ = some (.map (some b0)) := (HS1.out.cell 3).trans (by rw [← HWM.out]; rfl)
  have gl : R.sb < w1.heap.size := HS1.out.lt
  have gM : MapAt (Value.int .i64) w1 b0 (R.works.map fun p => (p.1, workPtr p.2)) := by have := HS1.out.works.worksMap; simp only [HWM.out] at this; exact this
  have HC1 : Hid (∀ k ∈ C1, k ∉ R.fp ∧ w.heap.size < k) := fun k hk => by
    rcases hC1' k hk with h' | h'
    · simp at h'
      exact ⟨fun hf => by have := fp_lt HST.out k hf; omega, by omega⟩
    · simp at h'
      exact ⟨fun hf => by have := fp_lt HST.out k hf; omega, by omega⟩
  have HCB : Hid (b0 ∉ C1) := fun hc => (HC1.out _ hc).1 (by simp [Rep.fp, Rep.fpWorks, HWM.out])
  have HSB : Hid (¬ (R.sb ∈ C1 ∨ R.sb = b0)) := fun h' => h'.elim (fun hc => (HC1.out _ hc).1 (by simp [Rep.fp])) HNF.out
  have hE := enter_work (w.heap.size + 1) fs1 C1 b0 (R.begun + 1) _ none (some ⟨w1.heap.size + 1, 0, none⟩) ((w1.alloc (.map #[] 0)).alloc (.cells #[.int .i64 R.now, .map (some w1.heap.size)] 76)).drew (hC1.kept (((Keeps.refl (fun _ => False) w1).al _).al _).dr (fun _ _ h => h)) (gM.kept (((Keeps.refl (fun _ => False) w1).al _).al _).dr (fun h => h)) (by rw [HN.out]; rfl) HCB.out (by rw [hf1]; simp)
  clear h0 h2 h3
  go_wp2_with fail
  go_region_held3 (fun W => W.cell? ⟨R.sb, 0, none⟩ = some (.int .i64 R.now) ∧ W.cell? ⟨R.sb, 2, none⟩ = some (.int .i64 (R.begun + 1)) ∧ W.cell? ⟨R.sb, 3, none⟩ = some (.map (some b0))) (go_keep) (first | (go_at_call 25; refine hE.mono ?_; rintro e w2 ⟨rfl, fs2, C2, hf2, hC2, hk2, hC2', hm2⟩; have q0 := hk2.cell (p := ⟨R.sb, 0, none⟩) ((((Keeps.refl (fun _ => False) w1).al _).al _).dr.cell g0 (fun h => h)) HSB.out; have q2 := hk2.cell (p := ⟨R.sb, 2, none⟩) ((((Keeps.refl (fun _ => False) w1).al _).al _).dr.cell g2 (fun h => h)) HSB.out; have q3 := hk2.cell (p := ⟨R.sb, 3, none⟩) ((((Keeps.refl (fun _ => False) w1).al _).al _).dr.cell g3 (fun h => h)) HSB.out))
  have HK2 : Hid (Keeps (fun k => k ∈ C1 ∨ k = b0) ((w1.alloc (.map #[] 0)).alloc (.cells #[.int .i64 R.now, .map (some w1.heap.size)] 76)).drew w2) := hk2
  obtain ⟨x1, x2⟩ := HS1.out.entered (C := C1) (n := R.begun + 1) (now := R.now) HWM.out (fun k hk => ⟨(HC1.out k hk).1, by have := hC1.lt k hk; omega, by have := hC1.lt k hk; omega⟩) (by have := HN.out; rw [look_map] at this; simpa using this) HK2.out hm2
  have hE0 : w2.heap[w.heap.size]? = some (.cells #[.int .i64 0] 28 (0, 0)) := by
    rw [x2.block w.heap.size (by have := hk1.size; simp at this; omega) (by rintro (hc | hc); exact absurd (HC1.out _ hc).2 (by omega); exact absurd (fp_lt HST.out b0 (by simp [Rep.fp, Rep.fpWorks, HWM.out])) (by omega))]
    rw [hk1.block w.heap.size (by simp; omega) (by rintro (hc | hc); simp at hc; omega)]
    have := heap_new w (.cells #[.int .i64 0] 28)
    exact (Below.heap_alloc _ _ _ (by simp)).trans this
  have y0 : w2.cell? ⟨w.heap.size, 0, none⟩ = some (.int .i64 0) := cell_of_heap hE0 0
  have y1 : w2.frozen? ⟨w.heap.size, 0, none⟩ = false := frozen_of_heap hE0 0
  have HE0 : Hid (w2.heap[w.heap.size]? = some (.cells #[.int .i64 0] 28 (0, 0))) := hE0
  have HX1 : Hid (StoreAt w2 _) := x1
  have HX2 : Hid (Keeps _ w1 w2) := x2
  clear hE0 x1 x2 hE hm2 hk2 g0 g2 g3 gM hw
  go_wp2
  refine leaves_cons (f := 21) (args := #[.pointer (some ⟨w.heap.size + 1, 0, none⟩), .pointer (some ⟨w.heap.size, 0, none⟩)]) (by simp) (by simp [go_sem]) ?_
  have hE1 := heap_setCell_same (i := 0) HE0.out (.int .i64 0)
  refine (begin1_ok (w.heap.size + 1) w.heap.size _ ?_).mono ?_
  · exact cell_of_heap hE1 0
  rintro e u' w'' ⟨rfl, rfl, rfl⟩
  have hpost : BeginPost R w (w2.setCell ⟨w.heap.size, 0, none⟩ (.int .i64 0)) := by
    refine ⟨w1.heap.size + 1, w1.heap.size, R.wm, ?_, ?_, .inl rfl, ?_, ?_⟩
    · refine HX1.out.kept (Keeps.setCell _ _ _) (fun k hk e => ?_)
      have e' : k = w.heap.size := e
      have hkk : k ∈ R.fp ∨ k = w1.heap.size + 1 ∨ k = w1.heap.size := mem_fp_entered hk
      have hz1 := hk1.size
      simp at hz1
      rcases hkk with h | h | h
      · have := fp_lt HST.out k h; omega
      · omega
      · omega
    · have h1 : Keeps (· ∈ R.fp) w w1 := ((((Keeps.refl (· ∈ R.fp) w).al _).al _).dr).trans hk1 (fun k hk h => by
        rcases h with h | rfl
        · simp at h; omega
        · simp [Rep.fp])
      refine (h1.trans HX2.out (fun k hk h => ?_)).st (.inl (Nat.le_refl _)) _
      rcases h with h | rfl
      · exact absurd (HC1.out k h).2 (by omega)
      · simp [Rep.fp, Rep.fpWorks, HWM.out]
    · have hz1 := hk1.size
      simp at hz1
      omega
    · have hz1 := hk1.size
      simp at hz1
      omega
  have hb := cell_of_heap hE1 0
  generalize w2.setCell ⟨w.heap.size, 0, none⟩ (.int .i64 0) = W3 at hpost hb
  simp at hb
  simp [Leaves, settle, results, Try.results7, go_sem, hb, hpost]

end Go.Proofs.Ytfcocbcihhdbkaa

/- Begin on a store at which no work was begun. -/
namespace Go.Proofs.Ytfcocbcihhdbkaa
open Go.RowKit

theorem mem_fp_wm {R : Rep} {q k : Nat} (hwm : R.wm = none) (hk : k ∈ Rep.fp { R with wm := some q }) : k ∈ R.fp ∨ k = q := by
  have e : Rep.fp { R with wm := some q } = R.sb :: (q :: (R.fpWorks ++ R.fpPast)) := by
    simp [Rep.fp, Rep.fpWorks, Rep.fpPast, hwm]
  rw [e] at hk
  simp only [List.mem_cons] at hk
  simp only [Rep.fp, List.mem_cons]
  rcases hk with h | h | h
  · exact .inl (.inl h)
  · exact .inr h
  · exact .inl (.inr h)

/-- Behind the making of the map of open works. -/
theorem StoreAt.mapSet {w w' : World} {R : Rep} {C : List Nat} {q : Nat} (h : StoreAt w R) (hwm : R.wm = none) (hwk : R.works = []) (hk : Keeps (fun k => k ∈ C ∨ k = R.sb) w w') (hC : ∀ k ∈ C, k ∉ R.fp) (hq : MapAt (Value.int .i64) w q []) (hqC : q ∉ C) (hqf : q ∉ R.fp)
    (hb : w'.heap[R.sb]? = (w.setCell ⟨R.sb, 3, none⟩ (.map (some q))).heap[R.sb]?) : StoreAt w' { R with wm := some q } := by
  have hnd := h.nodup
  have hns : ∀ k, k ∈ R.fpWorks ++ R.fpPast → ¬ (k ∈ C ∨ k = R.sb) := by
    intro k hk'
    rintro (hc | rfl)
    · exact hC k hc (List.mem_cons_of_mem _ hk')
    · simp only [Rep.fp, List.nodup_cons] at hnd
      exact hnd.1 hk'
  refine ⟨?_, ⟨?_, ?_, ?_, ?_⟩, ?_, ?_⟩
  · rw [hb]
    exact h.set (R' := { R with wm := some q }) (i := 3) (v := .map (some q)) rfl (by simp [topCells])
  · show MapAt _ _ _ _
    rw [hwk]
    refine hq.kept hk ?_
    rintro (hc | rfl)
    · exact hqC hc
    · exact hqf (by simp [Rep.fp])
  · intro p hp
    rw [hwk] at hp
    cases hp
  · exact h.works.pinsMap.kept hk (fun b hb => hns b (by simp [Rep.fpWorks, pcOf, hb]))
  · exact h.works.copyMap.kept hk (fun b hb => hns b (by simp [Rep.fpWorks, pcOf, hb]))
  · exact h.past.kept hk (fun k hk' => hns k (List.mem_append_right _ hk'))
  · have e : Rep.fp { R with wm := some q } = R.sb :: (q :: (R.fpWorks ++ R.fpPast)) := by
      simp [Rep.fp, Rep.fpWorks, Rep.fpPast, hwm]
    rw [e]
    simp only [Rep.fp, List.nodup_cons, List.mem_cons, not_or] at hnd hqf ⊢
    exact ⟨⟨fun e => hqf.1 e.symm, hnd.1⟩, hqf.2, hnd.2⟩

set_option maxRecDepth 100000 in
set_option maxHeartbeats 1000000 in
theorem begin_none (R : Rep) (w : World) (h : StoreAt w R) (hwm : R.wm = none) (hb1 : 0 ≤ R.begun) (hb2 : R.begun < 1152921504606846976) :
    Calls Try.prog 7 #[.pointer (some ⟨R.sb, 0, none⟩)] w fun e w' => e = .returned (.tuple #[.int .i64 (R.begun + 1), .int .i64 0]) ∧ BeginPost R w w' := by
  obtain ⟨h0, -, h2, h3, -, -, -, -, -⟩ := h.seven
  have hlt := h.lt
  have hw : OptMap (Value.int .i64) w none [] := rfl
  have hwk : R.works = [] := by have := h.works.worksMap; rw [hwm] at this; exact List.map_eq_nil_iff.1 this
  have hmf : ∀ (fn : Fn) (first cap : Array Value) (w : World), (Instr.makeFunc fn first cap).run Try.prog w = .ok (.func fn first cap) w := fun _ _ _ _ => rfl
  have hmm := @run_makeMap Try.prog
  have hem := eqMap_none
  rw [hwm] at h3
  have HST : Hid (StoreAt w R) := h
  have HWM0 : Hid (R.wm = none) := hwm
  have HWK : Hid (R.works = []) := hwk
  have HWR : Hid (IntKind.i64.wrap (R.begun + 1) = R.begun + 1) := IntWalk.i64_in _ ⟨by omega, by omega⟩
  clear h hwm hwk
  go_enter_defers Try.func7, Try.ntmps7
  go_wp2_with (first
    | (at_len; go_must (refine wpList_len_opt _ rfl _ 59 rfl 3 73 Try.underlying59 none rfl [] ((hw.kept (Keeps.alloc (fun _ => False) _ _) (fun _ _ h => h)).kept (Keeps.alloc (fun _ => False) _ _) (fun _ _ h => h)) ?_; simp only [List.length_nil]))
    | (go_at_call 23; go_must (refine (assign_map (w.heap.size + 1) [] [w.heap.size + 1] R.sb 3 none (some (w.heap.size + 1 + 1)) _ ((chg_new w _).kept (Keeps.alloc (fun _ => False) _ _) (fun _ _ h => h)) (((HST.out.kept (((Keeps.refl (fun _ => False) w).al _).al _) (fun _ _ h => h)).kept (Keeps.alloc (fun _ => False) _ _) (fun _ _ h => h)).cell 3 |>.trans (by rw [← HWM0.out]; rfl)) ((HST.out.kept ((((Keeps.refl (fun _ => False) w).al _).al _).al _) (fun _ _ h => h)).frozen 3) (by simp; omega) (by simp)).mono ?_; rintro e w0 ⟨rfl, fs0, C0, hf0, hC0, hk0, hC0', hb0⟩; have HB0 : Hid (w0.heap[R.sb]? = _) := hb0; clear hb0)))
  have HC0 : Hid (∀ k ∈ C0, k ∉ R.fp ∧ w.heap.size < k ∧ k ≠ w.heap.size + 1 + 1 ∧ k < w0.heap.size) := fun k hk => by
    have hl0 := hC0.lt k hk
    rcases hC0' k hk with h' | h'
    · simp at h'
      exact ⟨fun hf => by have := fp_lt HST.out k hf; omega, by omega, by omega, hl0⟩
    · simp at h'
      exact ⟨fun hf => by have := fp_lt HST.out k hf; omega, by omega, by omega, hl0⟩
  have HS0 : Hid (StoreAt w0 { R with wm := some (w.heap.size + 1 + 1) }) := by
    refine StoreAt.mapSet (HST.out.kept ((((Keeps.refl (fun _ => False) w).al _).al _).al _) (fun _ _ h => h)) HWM0.out HWK.out hk0 (fun k hk hf => by have := fp_lt HST.out k hf; simp at hk; omega) ?_ (by simp) (fun hf => by have := fp_lt HST.out _ hf; omega) HB0.out
    have := MapAt.made (Value.int .i64) ((w.alloc (.cells #[.int .i64 0] 28)).alloc (.cells #[.slice none 0 0] 56))
    simpa using this
  have hz0 : w.heap.size + 3 ≤ w0.heap.size := by have := hk0.size; simp at this; omega
  have k2 : w0.cell? ⟨R.sb, 2, none⟩ = some (.int .i64 R.begun) := HS0.out.cell 2
  have HSB0 : Hid (R.sb ∉ C0) := fun hc => (HC0.out _ hc).1 (by simp [Rep.fp])
  clear hw h0 h2 h3
  refine wp_normal ?_
  go_region_with (go_at_call 24; go_must (refine (assign_int (w.heap.size + 1) fs0 C0 R.sb 2 R.begun (IntKind.i64.wrap (R.begun + 1)) _ (hC0.kept (Keeps.drew (fun _ => False) _) (fun _ _ h => h)) ((HS0.out.kept (Keeps.drew (fun _ => False) _) (fun _ _ h => h)).cell 2) ((HS0.out.kept (Keeps.drew (fun _ => False) _) (fun _ _ h => h)).frozen 2) HSB0.out (by rw [hf0]; simp)).mono ?_; rintro e w1 ⟨rfl, fs1, C1, hf1, hC1, hk1, hC1', hb1⟩; rw [HWR.out] at hb1; have HB1 : Hid (w1.heap[R.sb]? = _) := hb1; clear hb1))
  have HC1 : Hid (∀ k ∈ C1, k ∉ R.fp ∧ w.heap.size < k ∧ k ≠ w.heap.size + 1 + 1 ∧ k < w1.heap.size) := fun k hk => by
    have hl1 := hC1.lt k hk
    rcases hC1' k hk with h' | h'
    · obtain ⟨a1, a2, a3, a4⟩ := HC0.out k h'
      exact ⟨a1, a2, a3, hl1⟩
    · simp at h'
      exact ⟨fun hf => by have := fp_lt HST.out k hf; omega, by omega, by omega, hl1⟩
  have HS1 : Hid (StoreAt w1 { R with begun := R.begun + 1, wm := some (w.heap.size + 1 + 1) }) := StoreAt.begunSet (R := { R with wm := some (w.heap.size + 1 + 1) }) (HS0.out.kept (Keeps.drew (fun _ => False) _) (fun _ _ h => h)) hk1 (fun k hk hf => by
    obtain ⟨a1, a2, a3, a4⟩ := HC0.out k hk
    rcases mem_fp_wm HWM0.out hf with h | h
    · exact a1 h
    · exact a3 h) HB1.out
  have g0 : w1.cell? ⟨R.sb, 0, none⟩ = some (.int .i64 R.now) := HS1.out.cell 0
  have g2 : w1.cell? ⟨R.sb, 2, none⟩ = some (.int .i64 (R.begun + 1)) := HS1.out.cell 2
  have g3 : w1.cell? ⟨R.sb, 3, none⟩ = some (.map (some (w.heap.size + 1 + 1))) := HS1.out.cell 3
  have gl : R.sb < w1.heap.size := HS1.out.lt
  have hz1 : w.heap.size + 3 ≤ w1.heap.size := by have := hk1.size; simp at this; omega
  have gM : MapAt (Value.int .i64) w1 (w.heap.size + 1 + 1) (R.works.map fun p => (p.1, workPtr p.2)) := HS1.out.works.worksMap
  have HN : Hid (look (R.works.map fun p => (p.1, workPtr p.2)) (R.begun + 1) = none) := by unfold Hid; rw [HWK.out]; rfl
  have HCB : Hid (w.heap.size + 1 + 1 ∉ C1) := fun hc => (HC1.out _ hc).2.2.1 rfl
  have HSB : Hid (¬ (R.sb ∈ C1 ∨ R.sb = w.heap.size + 1 + 1)) := fun h' => h'.elim (fun hc => (HC1.out _ hc).1 (by simp [Rep.fp])) (fun e => by omega)
  have hE := enter_work (w.heap.size + 1) fs1 C1 (w.heap.size + 1 + 1) (R.begun + 1) _ none (some ⟨w1.heap.size + 1, 0, none⟩) ((w1.alloc (.map #[] 0)).alloc (.cells #[.int .i64 R.now, .map (some w1.heap.size)] 76)).drew (hC1.kept (((Keeps.refl (fun _ => False) w1).al _).al _).dr (fun _ _ h => h)) (gM.kept (((Keeps.refl (fun _ => False) w1).al _).al _).dr (fun h => h)) (by rw [HN.out]; rfl) HCB.out (by rw [hf1, hf0]; simp)
  clear k2
  go_wp2_with fail
  go_region_held3 (fun W => W.cell? ⟨R.sb, 0, none⟩ = some (.int .i64 R.now) ∧ W.cell? ⟨R.sb, 2, none⟩ = some (.int .i64 (R.begun + 1)) ∧ W.cell? ⟨R.sb, 3, none⟩ = some (.map (some (w.heap.size + 1 + 1)))) (go_keep) (first | (go_at_call 25; refine hE.mono ?_; rintro e w2 ⟨rfl, fs2, C2, hf2, hC2, hk2, hC2', hm2⟩; have q0 := hk2.cell (p := ⟨R.sb, 0, none⟩) ((((Keeps.refl (fun _ => False) w1).al _).al _).dr.cell g0 (fun h => h)) HSB.out; have q2 := hk2.cell (p := ⟨R.sb, 2, none⟩) ((((Keeps.refl (fun _ => False) w1).al _).al _).dr.cell g2 (fun h => h)) HSB.out; have q3 := hk2.cell (p := ⟨R.sb, 3, none⟩) ((((Keeps.refl (fun _ => False) w1).al _).al _).dr.cell g3 (fun h => h)) HSB.out))
  have HK2 : Hid (Keeps (fun k => k ∈ C1 ∨ k = w.heap.size + 1 + 1) ((w1.alloc (.map #[] 0)).alloc (.cells #[.int .i64 R.now, .map (some w1.heap.size)] 76)).drew w2) := hk2
  obtain ⟨x1, x2⟩ := HS1.out.entered (C := C1) (b0 := w.heap.size + 1 + 1) (n := R.begun + 1) (now := R.now) rfl (fun k hk => by
    obtain ⟨a1, a2, a3, a4⟩ := HC1.out k hk
    exact ⟨fun hf => by
      rcases mem_fp_wm (R := { R with begun := R.begun + 1 }) HWM0.out hf with h | h
      · exact a1 h
      · exact a3 h, by omega, by omega⟩) (by show look R.works _ = none; rw [HWK.out]; rfl) HK2.out hm2
  have hE0 : w2.heap[w.heap.size]? = some (.cells #[.int .i64 0] 28 (0, 0)) := by
    rw [x2.block w.heap.size (by omega) (by rintro (hc | hc); exact absurd (HC1.out _ hc).2.1 (by omega); omega)]
    rw [hk1.block w.heap.size (by simp; omega) (by rintro (hc | hc); exact absurd (HC0.out _ hc).2.1 (by omega); omega)]
    show w0.heap[w.heap.size]? = _
    rw [hk0.block w.heap.size (by simp; omega) (by rintro (hc | hc); simp at hc; omega)]
    have := heap_new w (.cells #[.int .i64 0] 28)
    exact (Below.heap_alloc _ _ _ (by simp; omega)).trans ((Below.heap_alloc _ _ _ (by simp)).trans this)
  have y0 : w2.cell? ⟨w.heap.size, 0, none⟩ = some (.int .i64 0) := cell_of_heap hE0 0
  have y1 : w2.frozen? ⟨w.heap.size, 0, none⟩ = false := frozen_of_heap hE0 0
  have HE0 : Hid (w2.heap[w.heap.size]? = some (.cells #[.int .i64 0] 28 (0, 0))) := hE0
  have HX1 : Hid (StoreAt w2 _) := x1
  have HX2 : Hid (Keeps _ w1 w2) := x2
  clear hE0 x1 x2 hE hm2 hk2 g0 g2 g3 gM
  go_wp2
  refine leaves_cons (f := 21) (args := #[.pointer (some ⟨w.heap.size + 1, 0, none⟩), .pointer (some ⟨w.heap.size, 0, none⟩)]) (by simp) (by simp [go_sem]) ?_
  have hE1 := heap_setCell_same (i := 0) HE0.out (.int .i64 0)
  refine (begin1_ok (w.heap.size + 1) w.heap.size _ ?_).mono ?_
  · exact cell_of_heap hE1 0
  rintro e u' w'' ⟨rfl, rfl, rfl⟩
  have hpost : BeginPost R w (w2.setCell ⟨w.heap.size, 0, none⟩ (.int .i64 0)) := by
    refine ⟨w1.heap.size + 1, w1.heap.size, some (w.heap.size + 1 + 1), ?_, ?_, .inr ⟨_, rfl, by omega⟩, by omega, by omega⟩
    · refine HX1.out.kept (Keeps.setCell _ _ _) (fun k hk e => ?_)
      have e' : k = w.heap.size := e
      have hkk := mem_fp_entered (R := { R with wm := some (w.heap.size + 1 + 1) }) hk
      rcases hkk with h | h | h
      · rcases mem_fp_wm HWM0.out h with h | h
        · have := fp_lt HST.out k h; omega
        · omega
      · omega
      · omega
    · have h0 : Keeps (· ∈ R.fp) w w0 := ((((Keeps.refl (· ∈ R.fp) w).al _).al _).al _).trans hk0 (fun k hk h => by
        rcases h with h | rfl
        · simp at h; omega
        · simp [Rep.fp])
      have h1 : Keeps (· ∈ R.fp) w w1 := (h0.dr).trans hk1 (fun k hk h => by
        rcases h with h | rfl
        · exact absurd (HC0.out k h).2.1 (by omega)
        · simp [Rep.fp])
      refine (h1.trans HX2.out (fun k hk h => ?_)).st (.inl (Nat.le_refl _)) _
      rcases h with h | rfl
      · exact absurd (HC1.out k h).2.1 (by omega)
      · omega
  have hb := cell_of_heap hE1 0
  generalize w2.setCell ⟨w.heap.size, 0, none⟩ (.int .i64 0) = W3 at hpost hb
  simp at hb
  simp [Leaves, settle, results, Try.results7, go_sem, hb, hpost]

end Go.Proofs.Ytfcocbcihhdbkaa

/- Get, Abort. -/
namespace Go.Proofs.Ytfcocbcihhdbkaa
open Go.RowKit

/-- What is always so of a store's contents. -/
structure Good (R : Rep) : Prop where
  now : 0 ≤ R.now ∧ R.now ≤ 1000000000
  begun : 0 ≤ R.begun ∧ R.begun ≤ 1000000000000000
  works8 : R.works.length ≤ 8
  numbers : ∀ p ∈ R.works, 1 ≤ p.1 ∧ p.1 ≤ R.begun
  began : ∀ p ∈ R.works, 0 ≤ p.2.began ∧ p.2.began ≤ R.now
  writes30 : ∀ p ∈ R.works, p.2.writes.length ≤ 30
  wkeys : ∀ p ∈ R.works, ∀ q ∈ p.2.writes, keyB q.1 = true ∧ valB q.2.value = true ∧ q.2.state = 0
  rising : ∀ p ∈ R.hist, Rising p.2.vers
  states : ∀ p ∈ R.hist, ∀ v ∈ p.2.vers, 0 ≤ v.state ∧ v.state ≤ R.now
  filled : ∀ p ∈ R.hist, p.2.vers ≠ []
  hkeys : ∀ p ∈ R.hist, keyB p.1 = true
  hvals : ∀ p ∈ R.hist, ∀ v ∈ p.2.vers, valB v.value = true
  sorted : R.keys.Pairwise (fun a b => a.data.toList < b.data.toList)
  keys : ∀ k, k ∈ R.keys ↔ ∃ x, look R.hist k = some x

theorem rising_length : ∀ (vs : List Ver) (lo hi : Int), Rising vs → (∀ v ∈ vs, lo ≤ v.state ∧ v.state ≤ hi) → (vs.length : Int) ≤ max 0 (hi - lo + 1)
  | [], lo, hi, _, _ => by simp; omega
  | v :: vs, lo, hi, hr, hb => by
    have h1 := hb v (by simp)
    obtain ⟨h2, h3⟩ := List.pairwise_cons.1 hr
    have ih := rising_length vs (v.state + 1) hi h3 (fun u hu => ⟨by have := h2 u hu; omega, (hb u (by simp [hu])).2⟩)
    simp only [List.length_cons]
    omega

theorem Good.vers {R : Rep} (h : Good R) (key : ByteArray) : Rising (versOf R.hist key) ∧ (versOf R.hist key).length ≤ 1000000000000 := by
  unfold versOf
  cases hl : look R.hist key with
  | none => exact ⟨List.Pairwise.nil, by simp⟩
  | some x =>
    have hm := look_mem hl
    have h1 := h.rising _ hm
    have h2 := rising_length x.vers 0 R.now h1 (h.states _ hm)
    refine ⟨h1, ?_⟩
    have h3 := h.now
    simp only [Option.map_some, Option.getD_some]
    omega

/-- see, for a work of the store -/
theorem see_any (R : Rep) (n : Int) (x : WkR) (key : ByteArray) (w : World) (h : StoreAt w R) (g : Good R) (hx : (n, x) ∈ R.works) :
    Calls Try.prog 34 #[.pointer (some ⟨R.sb, 0, none⟩), workPtr x, .string key] w fun e w' => e = .returned (.tuple #[.string ((seeVer x.writes (versOf R.hist key) x.began key).getD Ver.zero).value, .bool (standsB (seeVer x.writes (versOf R.hist key) x.began key))]) ∧ Keeps (fun _ => False) w w' := by
  obtain ⟨c0, c1, hm⟩ := h.works.work hx
  unfold seeVer
  cases hl : look x.writes key with
  | some v =>
    simp only [Option.getD_some, standsB]
    exact see_mine R.sb x.blk x.mb key _ v w c1 hm (by rw [look_map, hl]; rfl)
  | none =>
    obtain ⟨g1, g2⟩ := g.vers key
    exact see_past R.sb x.blk x.mb key _ x.began R.vm _ _ (versOf R.hist key) w c0 c1 hm (by rw [look_map, hl]; rfl) (h.cell 8) h.past.histMap rfl (h.past.slice key) g1 g2

/-- what Get answers -/
def getAns (R : Rep) (n : Int) (key : ByteArray) : ByteArray × Int :=
  match look R.works n with
  | none => (ByteArray.empty, 1)
  | some x =>
    if keyB key = true then
      if standsB (seeVer x.writes (versOf R.hist key) x.began key) = true then (((seeVer x.writes (versOf R.hist key) x.began key).getD Ver.zero).value, 0) else (ByteArray.empty, 1)
    else (ByteArray.empty, 2)

set_option maxRecDepth 100000 in
set_option maxHeartbeats 400000 in
theorem get_none (R : Rep) (n : Int) (key : ByteArray) (w : World) (h : StoreAt w R) (hn : look R.works n = none) :
    Calls Try.prog 14 #[.pointer (some ⟨R.sb, 0, none⟩), .int .i64 n, .string key] w fun e w' => e = .returned (.tuple #[.string ByteArray.empty, .int .i64 1]) ∧ Keeps (fun _ => False) w w' := by
  have hf := find_any R n w h
  rw [hn] at hf
  simp only [Option.map_none, Option.getD_none] at hf
  clear hn h
  go_enter Try.func14, Try.ntmps14
  go_wp2_with (go_at_call 30; go_must (refine hf.mono ?_; rintro e w1 ⟨rfl, rfl⟩))
  go_ret2
  exact ⟨rfl, Keeps.refl _ _⟩

set_option maxRecDepth 100000 in
set_option maxHeartbeats 400000 in
theorem get_some (R : Rep) (n : Int) (x : WkR) (key : ByteArray) (w : World) (h : StoreAt w R) (g : Good R) (hn : look R.works n = some x) (hk : key.size ≤ maxLen) :
    Calls Try.prog 14 #[.pointer (some ⟨R.sb, 0, none⟩), .int .i64 n, .string key] w fun e w' => e = .returned (.tuple #[.string (getAns R n key).1, .int .i64 (getAns R n key).2]) ∧ Keeps (fun _ => False) w w' := by
  have hf := find_any R n w h
  have hs := see_any R n x key w h g (look_mem hn)
  have hi := isKey_any key w hk
  have hnot : ∀ (x : Bool) (w : World), (Op.unary .not (.bool x)).run Try.prog w = .ok (.bool (!x)) w := fun _ _ => rfl
  rw [hn] at hf
  simp only [Option.map_some, Option.getD_some, workPtr] at hf hs
  unfold getAns
  rw [hn]
  simp only
  generalize seeVer x.writes (versOf R.hist key) x.began key = ov at hs ⊢
  clear hn h g hk
  generalize R.sb = sb at *
  cases hkb : keyB key with
  | false =>
    rw [hkb] at hi
    simp only [Bool.false_eq_true, if_false]
    clear hkb
    go_enter Try.func14, Try.ntmps14
    go_wp2_with (first
      | (go_at_call 30; go_must (refine hf.mono ?_; rintro e w1 ⟨rfl, rfl⟩))
      | (go_at_call 33; go_must (refine hi.mono ?_; rintro e w1 ⟨rfl, rfl⟩)))
    go_ret2
    exact ⟨rfl, Keeps.refl _ _⟩
  | true =>
    rw [hkb] at hi
    simp only [if_true]
    clear hkb
    cases hst : standsB ov with
    | false =>
      rw [hst] at hs
      simp only [Bool.false_eq_true, if_false]
      clear hst
      go_enter Try.func14, Try.ntmps14
      go_wp2_with (first
        | (go_at_call 30; go_must (refine hf.mono ?_; rintro e w1 ⟨rfl, rfl⟩))
        | (go_at_call 33; go_must (refine hi.mono ?_; rintro e w1 ⟨rfl, rfl⟩))
        | (go_at_call 34; go_must (refine hs.mono ?_; rintro e w1 ⟨rfl, hk1⟩)))
      go_ret2
      exact ⟨rfl, hk1⟩
    | true =>
      rw [hst] at hs
      simp only [if_true]
      clear hst
      go_enter Try.func14, Try.ntmps14
      go_wp2_with (first
        | (go_at_call 30; go_must (refine hf.mono ?_; rintro e w1 ⟨rfl, rfl⟩))
        | (go_at_call 33; go_must (refine hi.mono ?_; rintro e w1 ⟨rfl, rfl⟩))
        | (go_at_call 34; go_must (refine hs.mono ?_; rintro e w1 ⟨rfl, hk1⟩)))
      go_ret2
      exact ⟨rfl, hk1⟩

theorem get_any (R : Rep) (n : Int) (key : ByteArray) (w : World) (h : StoreAt w R) (g : Good R) (hk : key.size ≤ maxLen) :
    Calls Try.prog 14 #[.pointer (some ⟨R.sb, 0, none⟩), .int .i64 n, .string key] w fun e w' => e = .returned (.tuple #[.string (getAns R n key).1, .int .i64 (getAns R n key).2]) ∧ Keeps (fun _ => False) w w' := by
  cases hn : look R.works n with
  | none =>
    refine (get_none R n key w h hn).mono ?_
    rintro e w' ⟨he, hk⟩
    refine ⟨?_, hk⟩
    rw [he]
    unfold getAns
    rw [hn]
  | some x => exact get_some R n x key w h g hn hk

end Go.Proofs.Ytfcocbcihhdbkaa

/- Abort. -/
namespace Go.Proofs.Ytfcocbcihhdbkaa
open Go.RowKit

theorem del_sublist {α β : Type} [DecidableEq α] (l : List (α × β)) (k : α) : (del l k).Sublist l := by
  induction l with
  | nil => exact List.Sublist.refl _
  | cons p r ih =>
    obtain ⟨a, x⟩ := p
    unfold del
    split
    · exact List.sublist_cons_self _ _
    · exact List.Sublist.cons_cons _ ih

theorem flatMap_sublist {α β : Type} (f : α → List β) {l l' : List α} (h : l.Sublist l') : (l.flatMap f).Sublist (l'.flatMap f) := by
  induction h with
  | slnil => exact List.Sublist.refl _
  | cons a _ ih => simp only [List.flatMap_cons]; exact ih.trans (List.sublist_append_right _ _)
  | cons_cons a _ ih => simp only [List.flatMap_cons]; exact List.Sublist.append (List.Sublist.refl _) ih

theorem fp_del {R : Rep} {n : Int} : (Rep.fp { R with works := del R.works n }).Sublist R.fp := by
  simp only [Rep.fp, Rep.fpWorks, Rep.fpPast]
  exact List.Sublist.cons_cons _ (List.Sublist.append (List.Sublist.append (List.Sublist.refl _) (flatMap_sublist _ (del_sublist _ _))) (List.Sublist.refl _))

/-- A work is over. -/
theorem StoreAt.removed {w w' : World} {R : Rep} {C : List Nat} {b0 : Nat} {n : Int} (h : StoreAt w R) (hwm : R.wm = some b0) (hC : ∀ k ∈ C, k ∉ R.fp) (hk : Keeps (fun k => k ∈ C ∨ k = b0) w w')
    (hm : MapAt (Value.int .i64) w' b0 (del (R.works.map fun p => (p.1, workPtr p.2)) n)) : StoreAt w' { R with works := del R.works n } := by
  have hnd := h.nodup
  have hfpW : R.fpWorks = b0 :: (pcOf R.pm R.cm ++ R.works.flatMap (fun p => [p.2.blk, p.2.mb])) := by simp [Rep.fpWorks, hwm]
  have hnb : ∀ k, k ∈ R.sb :: ((pcOf R.pm R.cm ++ R.works.flatMap (fun p => [p.2.blk, p.2.mb])) ++ R.fpPast) → ¬ (k ∈ C ∨ k = b0) := by
    intro k hk'
    rintro (hc | rfl)
    · refine hC k hc ?_
      simp only [Rep.fp, hfpW, List.mem_cons, List.mem_append] at hk' ⊢
      rcases hk' with h | h | h
      · exact .inl h
      · exact .inr (.inl (.inr h))
      · exact .inr (.inr h)
    · simp only [Rep.fp, hfpW, List.cons_append, List.nodup_cons, List.mem_cons, List.mem_append, not_or] at hnd
      simp only [List.mem_cons, List.mem_append] at hk'
      rcases hk' with h | h | h
      · exact hnd.1.1 h.symm
      · rcases h with h | h
        · exact hnd.2.1.1.1 h
        · exact hnd.2.1.1.2 h
      · exact hnd.2.1.2 h
  refine ⟨?_, ⟨?_, ?_, ?_, ?_⟩, ?_, ?_⟩
  · exact (hk.block R.sb h.lt (hnb _ (by simp))).trans h.top
  · show OptMap _ _ R.wm _
    rw [hwm]
    show MapAt _ _ _ _
    rw [← del_map]
    exact hm
  · intro p hp
    have hp' : p ∈ R.works := (del_sublist _ _).subset hp
    obtain ⟨h1, h2⟩ := h.works.worksEach p hp'
    have hm1 : p.2.blk ∈ R.works.flatMap (fun p => [p.2.blk, p.2.mb]) := List.mem_flatMap.2 ⟨p, hp', by simp⟩
    have hm2 : p.2.mb ∈ R.works.flatMap (fun p => [p.2.blk, p.2.mb]) := List.mem_flatMap.2 ⟨p, hp', by simp⟩
    exact ⟨(hk.block _ (Array.getElem?_eq_some_iff.1 h1).1 (hnb _ (by simp [hm1]))).trans h1, h2.kept hk (hnb _ (by simp [hm2]))⟩
  · exact h.works.pinsMap.kept hk (fun b hb => hnb _ (by simp [pcOf, hb]))
  · exact h.works.copyMap.kept hk (fun b hb => hnb _ (by simp [pcOf, hb]))
  · exact h.past.kept hk (fun k hk' => hnb _ (List.mem_cons_of_mem _ (List.mem_append_right _ hk')))
  · exact hnd.sublist fp_del

theorem wm_some {w : World} {R : Rep} (h : StoreAt w R) {n : Int} {x : WkR} (hn : look R.works n = some x) : ∃ b0, R.wm = some b0 := by
  cases hw : R.wm with
  | some b => exact ⟨b, rfl⟩
  | none =>
    have := h.works.worksMap
    rw [hw] at this
    have e : R.works = [] := List.map_eq_nil_iff.1 this
    rw [e] at hn
    cases hn

set_option maxRecDepth 100000 in
set_option maxHeartbeats 400000 in
theorem abort_none (R : Rep) (n : Int) (w : World) (h : StoreAt w R) (hn : look R.works n = none) :
    Calls Try.prog 15 #[.pointer (some ⟨R.sb, 0, none⟩), .int .i64 n] w fun e w' => e = .returned (.int .i64 1) ∧ Keeps (fun _ => False) w w' := by
  have hmf : ∀ (fn : Fn) (first cap : Array Value) (w : World), (Instr.makeFunc fn first cap).run Try.prog w = .ok (.func fn first cap) w := fun _ _ _ _ => rfl
  have hf := find_any R n ((w.alloc (.cells #[.int .i64 0] 28)).alloc (.cells #[.slice none 0 0] 56)) (h.kept (((Keeps.refl (fun _ => False) w).al _).al _) (fun _ _ h => h))
  rw [hn] at hf
  simp only [Option.map_none, Option.getD_none] at hf
  clear hn h
  generalize R.sb = sb at *
  go_enter_defers Try.func15, Try.ntmps15
  go_wp2_with (go_at_call 30; go_must (refine hf.mono ?_; rintro e w1 ⟨rfl, rfl⟩))
  refine leaves_cons (f := 35) (args := #[.pointer (some ⟨w.heap.size + 1, 0, none⟩), .pointer (some ⟨w.heap.size, 0, none⟩)]) (by simp) (by simp [go_sem]) ?_
  refine (abort1_none (w.heap.size + 1) w.heap.size 1 (by omega) _ ?_ ?_).mono ?_
  · simp [go_sem]
  · simp [go_sem]
  rintro e u' w'' ⟨rfl, rfl, hk⟩
  have hb : w''.cell? ⟨w.heap.size, 0, none⟩ = some (.int .i64 1) := hk.cell (p := ⟨w.heap.size, 0, none⟩) (by simp [go_sem]) (fun h => h)
  simp [Leaves, settle, results, Try.results15, go_sem, hb]
  exact (((Keeps.refl _ w).al _).al _).tr hk (fun _ h => h)

set_option maxRecDepth 100000 in
set_option maxHeartbeats 600000 in
theorem abort_some (R : Rep) (n : Int) (x : WkR) (w : World) (h : StoreAt w R) (hn : look R.works n = some x) :
    Calls Try.prog 15 #[.pointer (some ⟨R.sb, 0, none⟩), .int .i64 n] w fun e w' => e = .returned (.int .i64 0) ∧ StoreAt w' { R with works := del R.works n } ∧ Keeps (· ∈ R.fp) w w' := by
  obtain ⟨b0, hwm⟩ := wm_some h hn
  have hmf : ∀ (fn : Fn) (first cap : Array Value) (w : World), (Instr.makeFunc fn first cap).run Try.prog w = .ok (.func fn first cap) w := fun _ _ _ _ => rfl
  have hW := h.kept (((Keeps.refl (fun _ => False) w).al (.cells #[.int .i64 0] 28)).al (.cells #[.slice none 0 0] 56)) (fun _ _ h => h)
  have hf := find_any R n _ hW
  rw [hn] at hf
  simp only [Option.map_some, Option.getD_some, workPtr] at hf
  have hM : MapAt (Value.int .i64) ((w.alloc (.cells #[.int .i64 0] 28)).alloc (.cells #[.slice none 0 0] 56)) b0 (R.works.map fun p => (p.1, workPtr p.2)) := by have := hW.works.worksMap; rw [hwm] at this; exact this
  have c3 : w.cell? ⟨R.sb, 3, none⟩ = some (.map (some b0)) := (h.cell 3).trans (by rw [← hwm]; rfl)
  have hlt := h.lt
  have hbf : b0 ∈ R.fp := by simp [Rep.fp, Rep.fpWorks, hwm]
  have hbl := fp_lt h _ hbf
  have hrm := remove_work (w.heap.size + 1) [] [w.heap.size + 1] b0 n _ (some ⟨x.blk, 0, none⟩) _ (chg_new w _) hM (by rw [look_map, hn]; rfl) (by simp; omega) (by simp)
  have HST : Hid (StoreAt w R) := h
  have HWM : Hid (R.wm = some b0) := hwm
  clear hW hM hn h hwm
  go_enter_defers Try.func15, Try.ntmps15
  go_wp2_with (first
    | (go_at_call 30; go_must (refine hf.mono ?_; rintro e w1 ⟨rfl, rfl⟩))
    | (go_at_call 31; go_must (refine hrm.mono ?_; rintro e w1 ⟨rfl, fs1, C1, hf1, hC1, hk1, hC1', hm1⟩; have hE0 : w1.heap[w.heap.size]? = some (.cells #[.int .i64 0] 28 (0, 0)) := ((hk1.block w.heap.size (by simp; omega) (by rintro (hc | hc); (simp at hc); omega)).trans (Below.heap_alloc _ _ _ (by simp))).trans (heap_new w _); have y0 : w1.cell? ⟨w.heap.size, 0, none⟩ = some (.int .i64 0) := cell_of_heap hE0 0; have y1 : w1.frozen? ⟨w.heap.size, 0, none⟩ = false := frozen_of_heap hE0 0; have HE0 : Hid (w1.heap[w.heap.size]? = some (.cells #[.int .i64 0] 28 (0, 0))) := hE0; clear hE0)))
  refine leaves_cons (f := 35) (args := #[.pointer (some ⟨w.heap.size + 1, 0, none⟩), .pointer (some ⟨w.heap.size, 0, none⟩)]) (by simp) (by simp [go_sem]) ?_
  have hE1 := heap_setCell_same (i := 0) HE0.out (.int .i64 0)
  refine (abort1_ok (w.heap.size + 1) w.heap.size _ ?_).mono ?_
  · exact cell_of_heap hE1 0
  rintro e u' w'' ⟨rfl, rfl, rfl⟩
  have hpost : StoreAt (w1.setCell ⟨w.heap.size, 0, none⟩ (.int .i64 0)) { R with works := del R.works n } ∧ Keeps (· ∈ R.fp) w (w1.setCell ⟨w.heap.size, 0, none⟩ (.int .i64 0)) := by
    have s1 := (HST.out.kept (((Keeps.refl (fun _ => False) w).al _).al _) (fun _ _ h => h)).removed HWM.out (fun k hk hf => by have := fp_lt HST.out k hf; simp at hk; omega) hk1 hm1
    refine ⟨s1.kept (Keeps.setCell _ _ _) (fun k hk e => ?_), ?_⟩
    · have e' : k = w.heap.size := e
      have := fp_lt HST.out k (fp_del.subset hk)
      omega
    · refine ((((Keeps.refl (· ∈ R.fp) w).al _).al _).trans hk1 (fun k hk h => ?_)).st (.inl (Nat.le_refl _)) _
      rcases h with h | rfl
      · simp at h; omega
      · exact hbf
  have hb := cell_of_heap hE1 0
  generalize w1.setCell ⟨w.heap.size, 0, none⟩ (.int .i64 0) = W3 at hpost hb
  simp at hb
  simp [Leaves, settle, results, Try.results15, go_sem, hb]
  exact hpost

end Go.Proofs.Ytfcocbcihhdbkaa

/- The library's facts that the walks lean on, at this program: numbers of functions and types, and one theorem each. -/
namespace Go.Proofs
open Go.Shelf
def Try.laysM316_ren : Go.Shelf.Ren := ⟨fun | 316 => 67 | n => n, fun | 9 => 9 | 3 => 3 | 4 => 4 | 37 => 125 | 0 => 0 | 127 => 126 | 5 => 5 | n => n, fun | n => n⟩
theorem Try.laysM316 : Go.Proofs.LaysM.n316 Try.prog Try.laysM316_ren := {
  mixed := by kernel_rfl
  f316 := Try.func67.trans (congrArg some (by kernel_rfl))
  t0 := Try.underlying0
  a0 := Try.isAgg0
  z0 := Try.sizeOf0
  v0 := Try.zeroValue0
  t3 := Try.underlying3
  a3 := Try.isAgg3
  z3 := Try.sizeOf3
  v3 := Try.zeroValue3
  t4 := Try.underlying4
  a4 := Try.isAgg4
  z4 := Try.sizeOf4
  v4 := Try.zeroValue4
  t9 := Try.underlying9
  a9 := Try.isAgg9
  z9 := Try.sizeOf9
  v9 := Try.zeroValue9
  t37 := Try.underlying125
  a37 := Try.isAgg125
  z37 := Try.sizeOf125
  v37 := Try.zeroValue125
  t127 := Try.underlying126
  a127 := Try.isAgg126
  z127 := Try.sizeOf126
  v127 := Try.zeroValue126
  t5 := Try.underlying5
  a5 := Try.isAgg5
  z5 := Try.sizeOf5
  v5 := Try.zeroValue5
  i0 := by kernel_rfl
  i3 := by kernel_rfl
  i4 := by kernel_rfl
  i5 := by kernel_rfl
  i9 := by kernel_rfl
  i37 := by kernel_rfl
  i127 := by kernel_rfl }
def Try.laysNm226_ren : Go.Shelf.Ren := ⟨fun | 26 => 57 | 33 => 73 | 34 => 74 | 38 => 83 | n => n, fun | 24 => 32 | 9 => 9 | 3 => 3 | 4 => 4 | 40 => 122 | 0 => 0 | n => n, fun | n => n⟩
theorem Try.laysNm226 : Go.Proofs.Lays2.n26 Try.prog Try.laysNm226_ren := {
  mixed := by kernel_rfl
  f26 := Try.func57.trans (congrArg some (by kernel_rfl))
  f33 := Try.func73.trans (congrArg some (by kernel_rfl))
  f34 := Try.func74.trans (congrArg some (by kernel_rfl))
  f38 := Try.func83.trans (congrArg some (by kernel_rfl))
  t0 := Try.underlying0
  a0 := Try.isAgg0
  z0 := Try.sizeOf0
  v0 := Try.zeroValue0
  t3 := Try.underlying3
  a3 := Try.isAgg3
  z3 := Try.sizeOf3
  v3 := Try.zeroValue3
  t4 := Try.underlying4
  a4 := Try.isAgg4
  z4 := Try.sizeOf4
  v4 := Try.zeroValue4
  t9 := Try.underlying9
  a9 := Try.isAgg9
  z9 := Try.sizeOf9
  v9 := Try.zeroValue9
  t24 := Try.underlying32
  a24 := Try.isAgg32
  z24 := Try.sizeOf32
  v24 := Try.zeroValue32
  t40 := Try.underlying122
  a40 := Try.isAgg122
  z40 := Try.sizeOf122
  v40 := Try.zeroValue122 }
def Try.laysNm222_ren : Go.Shelf.Ren := ⟨fun | 22 => 79 | 29 => 87 | 30 => 88 | 36 => 100 | 17 => 106 | n => n, fun | 24 => 32 | 9 => 9 | 3 => 3 | 4 => 4 | 0 => 0 | n => n, fun | n => n⟩
theorem Try.laysNm222 : Go.Proofs.Lays2.n22 Try.prog Try.laysNm222_ren := {
  mixed := by kernel_rfl
  f17 := Try.func106.trans (congrArg some (by kernel_rfl))
  f22 := Try.func79.trans (congrArg some (by kernel_rfl))
  f29 := Try.func87.trans (congrArg some (by kernel_rfl))
  f30 := Try.func88.trans (congrArg some (by kernel_rfl))
  f36 := Try.func100.trans (congrArg some (by kernel_rfl))
  t0 := Try.underlying0
  a0 := Try.isAgg0
  z0 := Try.sizeOf0
  v0 := Try.zeroValue0
  t3 := Try.underlying3
  a3 := Try.isAgg3
  z3 := Try.sizeOf3
  v3 := Try.zeroValue3
  t4 := Try.underlying4
  a4 := Try.isAgg4
  z4 := Try.sizeOf4
  v4 := Try.zeroValue4
  t9 := Try.underlying9
  a9 := Try.isAgg9
  z9 := Try.sizeOf9
  v9 := Try.zeroValue9
  t24 := Try.underlying32
  a24 := Try.isAgg32
  z24 := Try.sizeOf32
  v24 := Try.zeroValue32
  i9 := by kernel_rfl }
def Try.laysNm224_ren : Go.Shelf.Ren := ⟨fun | 24 => 89 | n => n, fun | 24 => 32 | 9 => 9 | 3 => 3 | 4 => 4 | 0 => 0 | n => n, fun | n => n⟩
theorem Try.laysNm224 : Go.Proofs.Lays2.n24 Try.prog Try.laysNm224_ren := {
  mixed := by kernel_rfl
  f24 := Try.func89.trans (congrArg some (by kernel_rfl))
  t0 := Try.underlying0
  a0 := Try.isAgg0
  z0 := Try.sizeOf0
  v0 := Try.zeroValue0
  t3 := Try.underlying3
  a3 := Try.isAgg3
  z3 := Try.sizeOf3
  v3 := Try.zeroValue3
  t4 := Try.underlying4
  a4 := Try.isAgg4
  z4 := Try.sizeOf4
  v4 := Try.zeroValue4
  t9 := Try.underlying9
  a9 := Try.isAgg9
  z9 := Try.sizeOf9
  v9 := Try.zeroValue9
  t24 := Try.underlying32
  a24 := Try.isAgg32
  z24 := Try.sizeOf32
  v24 := Try.zeroValue32
  i9 := by kernel_rfl }
def Try.keys59_ren : Go.Shelf.Ren := ⟨fun | 7 => 59 | 10 => 77 | n => n, fun | 23 => 74 | 26 => 9 | 3 => 79 | 28 => 87 | 0 => 0 | 27 => 86 | 33 => 83 | 4 => 4 | n => n, fun | n => n⟩
theorem Try.keys59 : Go.Proofs.SlLaysZ.n7 Try.prog Try.keys59_ren := {
  mixed := by kernel_rfl
  f7 := ⟨Try.f59.name, by decide, Try.func59.trans (congrArg some (by kernel_rfl))⟩
  f10 := ⟨Try.f77.name, by decide, Try.func77.trans (congrArg some (by kernel_rfl))⟩
  t0 := Try.underlying0
  a0 := Try.isAgg0
  z0 := Try.sizeOf0
  v0 := Try.zeroValue0
  t4 := Try.underlying4
  a4 := Try.isAgg4
  z4 := Try.sizeOf4
  v4 := Try.zeroValue4
  t23 := Try.underlying74
  a23 := Try.isAgg74
  z23 := Try.sizeOf74
  v23 := Try.zeroValue74
  t26 := Try.underlying9
  a26 := Try.isAgg9
  z26 := Try.sizeOf9
  v26 := Try.zeroValue9
  t27 := Try.underlying86
  a27 := Try.isAgg86
  z27 := Try.sizeOf86
  v27 := Try.zeroValue86
  t28 := Try.underlying87
  a28 := Try.isAgg87
  z28 := Try.sizeOf87
  v28 := Try.zeroValue87
  t33 := Try.underlying83
  a33 := Try.isAgg83
  z33 := Try.sizeOf83
  v33 := Try.zeroValue83 }
def Try.sorted58_ren : Go.Shelf.Ren := ⟨fun | 6 => 58 | 8 => 75 | 9 => 76 | 11 => 84 | 13 => 86 | 12 => 85 | 23 => 98 | 24 => 99 | 14 => 90 | 15 => 91 | 16 => 92 | 17 => 93 | 18 => 94 | 19 => 95 | 20 => 73 | 21 => 96 | 22 => 97 | 25 => 101 | 26 => 102 | 27 => 103 | 28 => 104 | 29 => 105 | 30 => 83 | 31 => 107 | n => n, fun | 26 => 9 | 28 => 87 | 24 => 32 | 0 => 0 | 3 => 3 | 37 => 122 | 48 => 109 | 50 => 146 | 4 => 4 | 40 => 139 | 39 => 138 | 45 => 105 | 5 => 5 | 9 => 9 | 51 => 147 | 55 => 71 | 57 => 152 | 58 => 153 | 33 => 83 | n => n, fun | n => n⟩
theorem Try.sorted58 : Go.Proofs.SlLaysZ.n6 Try.prog Try.sorted58_ren := {
  mixed := by kernel_rfl
  f6 := ⟨Try.f58.name, by decide, Try.func58.trans (congrArg some (by kernel_rfl))⟩
  f8 := ⟨Try.f75.name, by decide, Try.func75.trans (congrArg some (by kernel_rfl))⟩
  f11 := ⟨Try.f84.name, by decide, Try.func84.trans (congrArg some (by kernel_rfl))⟩
  t0 := Try.underlying0
  a0 := Try.isAgg0
  z0 := Try.sizeOf0
  v0 := Try.zeroValue0
  t24 := Try.underlying32
  a24 := Try.isAgg32
  z24 := Try.sizeOf32
  v24 := Try.zeroValue32
  t26 := Try.underlying9
  a26 := Try.isAgg9
  z26 := Try.sizeOf9
  v26 := Try.zeroValue9
  t28 := Try.underlying87
  a28 := Try.isAgg87
  z28 := Try.sizeOf87
  v28 := Try.zeroValue87
  i26 := by kernel_rfl }
def Try.sort76_ren : Go.Shelf.Ren := ⟨fun | 6 => 76 | 8 => 86 | 9 => 85 | 19 => 98 | 20 => 99 | 21 => 90 | 22 => 91 | 23 => 92 | 24 => 93 | 25 => 94 | 26 => 95 | 27 => 73 | 28 => 96 | 29 => 97 | 36 => 101 | 31 => 102 | 32 => 103 | 37 => 104 | 38 => 105 | 39 => 83 | 41 => 107 | n => n, fun | 27 => 32 | 29 => 9 | 3 => 3 | 32 => 122 | 26 => 32 | 0 => 0 | 44 => 109 | 46 => 146 | 4 => 4 | 36 => 139 | 35 => 138 | 41 => 105 | 5 => 5 | 9 => 9 | 53 => 147 | 57 => 71 | 63 => 152 | 64 => 153 | n => n, fun | n => n⟩
theorem Try.sort76 : Go.Proofs.SlLaysM.n6 Try.prog Try.sort76_ren := {
  mixed := by kernel_rfl
  f6 := ⟨Try.f76.name, by decide, Try.func76.trans (congrArg some (by kernel_rfl))⟩
  f8 := Try.func86.trans (congrArg some (by kernel_rfl))
  f9 := ⟨Try.f85.name, by decide, Try.func85.trans (congrArg some (by kernel_rfl))⟩
  f19 := Try.func98.trans (congrArg some (by kernel_rfl))
  f20 := Try.func99.trans (congrArg some (by kernel_rfl))
  f21 := ⟨Try.f90.name, by decide, Try.func90.trans (congrArg some (by kernel_rfl))⟩
  f22 := ⟨Try.f91.name, by decide, Try.func91.trans (congrArg some (by kernel_rfl))⟩
  f23 := ⟨Try.f92.name, by decide, Try.func92.trans (congrArg some (by kernel_rfl))⟩
  f24 := ⟨Try.f93.name, by decide, Try.func93.trans (congrArg some (by kernel_rfl))⟩
  f25 := ⟨Try.f94.name, by decide, Try.func94.trans (congrArg some (by kernel_rfl))⟩
  f26 := ⟨Try.f95.name, by decide, Try.func95.trans (congrArg some (by kernel_rfl))⟩
  f27 := ⟨Try.f73.name, by decide, Try.func73.trans (congrArg some (by kernel_rfl))⟩
  f28 := ⟨Try.f96.name, by decide, Try.func96.trans (congrArg some (by kernel_rfl))⟩
  f29 := ⟨Try.f97.name, by decide, Try.func97.trans (congrArg some (by kernel_rfl))⟩
  f31 := Try.func102.trans (congrArg some (by kernel_rfl))
  f32 := Try.func103.trans (congrArg some (by kernel_rfl))
  f36 := ⟨Try.f101.name, by decide, Try.func101.trans (congrArg some (by kernel_rfl))⟩
  f37 := ⟨Try.f104.name, by decide, Try.func104.trans (congrArg some (by kernel_rfl))⟩
  f38 := ⟨Try.f105.name, by decide, Try.func105.trans (congrArg some (by kernel_rfl))⟩
  f39 := ⟨Try.f83.name, by decide, Try.func83.trans (congrArg some (by kernel_rfl))⟩
  f41 := ⟨Try.f107.name, by decide, Try.func107.trans (congrArg some (by kernel_rfl))⟩
  t0 := Try.underlying0
  a0 := Try.isAgg0
  z0 := Try.sizeOf0
  v0 := Try.zeroValue0
  t3 := Try.underlying3
  a3 := Try.isAgg3
  z3 := Try.sizeOf3
  v3 := Try.zeroValue3
  t4 := Try.underlying4
  a4 := Try.isAgg4
  z4 := Try.sizeOf4
  v4 := Try.zeroValue4
  t5 := Try.underlying5
  a5 := Try.isAgg5
  z5 := Try.sizeOf5
  v5 := Try.zeroValue5
  t9 := Try.underlying9
  a9 := Try.isAgg9
  z9 := Try.sizeOf9
  v9 := Try.zeroValue9
  t26 := Try.underlying32
  a26 := Try.isAgg32
  z26 := Try.sizeOf32
  v26 := Try.zeroValue32
  t27 := Try.underlying32
  a27 := Try.isAgg32
  z27 := Try.sizeOf32
  v27 := Try.zeroValue32
  t29 := Try.underlying9
  a29 := Try.isAgg9
  z29 := Try.sizeOf9
  v29 := Try.zeroValue9
  t32 := Try.underlying122
  a32 := Try.isAgg122
  z32 := Try.sizeOf122
  v32 := Try.zeroValue122
  t35 := Try.underlying138
  a35 := Try.isAgg138
  z35 := Try.sizeOf138
  v35 := Try.zeroValue138
  t36 := Try.underlying139
  a36 := Try.isAgg139
  z36 := Try.sizeOf139
  v36 := Try.zeroValue139
  t41 := Try.underlying105
  a41 := Try.isAgg105
  z41 := Try.sizeOf105
  v41 := Try.zeroValue105
  t44 := Try.underlying109
  a44 := Try.isAgg109
  z44 := Try.sizeOf109
  v44 := Try.zeroValue109
  t46 := Try.underlying146
  a46 := Try.isAgg146
  z46 := Try.sizeOf146
  v46 := Try.zeroValue146
  t53 := Try.underlying147
  a53 := Try.isAgg147
  z53 := Try.sizeOf147
  v53 := Try.zeroValue147
  t57 := Try.underlying71
  a57 := Try.isAgg71
  z57 := Try.sizeOf71
  v57 := Try.zeroValue71
  t63 := Try.underlying152
  a63 := Try.isAgg152
  z63 := Try.sizeOf152
  v63 := Try.zeroValue152
  t64 := Try.underlying153
  a64 := Try.isAgg153
  z64 := Try.sizeOf153
  v64 := Try.zeroValue153 }
end Go.Proofs

/- The library's contracts that the program's walks lean on, laid at this dump. -/
namespace Go.Proofs
open Go.Shelf
namespace Ytfcocbcihhdbkaa
open Go.RowKit
theorem slClone_any (s : ByteArray) (w : World) (hlim : s.size ≤ 281474976710656) :
    Calls Try.prog 67 #[.string s] w fun e w' => e = .returned (.string s) ∧ Below w.heap.size w w' := Any.stringslite_Clone Try.laysM316 s w hlim

theorem slSearch_any (b off n c : Nat) (Sx : Nat → ByteArray) (x : ByteArray) (w : World) (hbig : n < 4611686018427387904) (hc : ∀ j, j < n → w.cell? ⟨b, off + j, none⟩ = some (.string (Sx j))) :
    Calls Try.prog 57 #[.slice (some ⟨b, off, none⟩) n c, .string x] w fun e w' =>
      e = .returned (.tuple #[.int .i64 (Lib.bsGo (fun t => Op.bytesLess (Sx t).toList x.toList) n 0 n : Nat), .bool (decide (Lib.bsGo (fun t => Op.bytesLess (Sx t).toList x.toList) n 0 n < n ∧ Sx (Lib.bsGo (fun t => Op.bytesLess (Sx t).toList x.toList) n 0 n) = x))]) ∧ ∃ q, w' = w.drewN q :=
  Any2.slices_BinarySearch_string Try.laysNm226 b off n c Sx x w hbig hc

theorem slSearch_empty (a : Option Addr) (c : Nat) (x : ByteArray) (w : World) :
    Calls Try.prog 57 #[.slice a 0 c, .string x] w fun e w' => e = .returned (.tuple #[.int .i64 0, .bool false]) ∧ w' = w :=
  Any2.slices_BinarySearch_string_empty Try.laysNm226 a c x w

theorem slInsert_shift (b off n c i vb voff m vc : Nat) (cs vs : List Value) (w : World) (hi : i < n) (hm : 0 < m) (hroom : n + m ≤ c) (hc63 : c ≤ 9223372036854775807) (hvb : vb ≠ b)
    (hcl : cs.length = n) (hvl : vs.length = m)
    (hcs : ∀ j v, cs[j]? = some v → w.cell? ⟨b, off + j, none⟩ = some v) (hsp : ∀ j, j < n + m → (w.cell? ⟨b, off + j, none⟩).isSome = true) (hfz : ∀ j, j < n + m → w.frozen? ⟨b, off + j, none⟩ = false)
    (hvs : ∀ j v, vs[j]? = some v → w.cell? ⟨vb, voff + j, none⟩ = some v) (h1c : ∀ v ∈ cs, v.oneCell' = true) (h1v : ∀ v ∈ vs, v.oneCell' = true)
    (tA tB : TypeId) (kA kB : Nat) (hsa : w.shape? vb = some (tA, kA)) (hsb : w.shape? b = some (tB, kB)) (hkB : kB ≠ 0) (hfa : w.frozen? ⟨vb, voff, none⟩ = false) (hfe : w.frozen? ⟨vb, kA, none⟩ = false) :
    Calls Try.prog 79 #[.slice (some ⟨b, off, none⟩) n c, .int .i64 i, .slice (some ⟨vb, voff, none⟩) m vc] w fun e w' =>
      e = .returned (.slice (some ⟨b, off, none⟩) (n + m) c) ∧ w' = (w.drew.setCells b (off + (i + m)) (cs.drop i)).setCells b (off + i) vs :=
  Any2.slices_Insert_string_shift Try.laysNm222 b off n c i vb voff m vc cs vs w hi hm hroom hc63 hvb hcl hvl hcs hsp hfz hvs h1c h1v tA tB kA kB hsa hsb hkB hfa hfe

theorem slInsert_end_room (b off n c vb voff m vc : Nat) (vs : List Value) (w : World) (hm : 0 < m) (hroom : n + m ≤ c) (hc63 : c ≤ 9223372036854775807)
    (hvl : vs.length = m) (hsp : ∀ j, j < m → (w.cell? ⟨b, off + n + j, none⟩).isSome = true) (hfz : ∀ j, j < m → w.frozen? ⟨b, off + n + j, none⟩ = false)
    (hvs : ∀ j v, vs[j]? = some v → w.cell? ⟨vb, voff + j, none⟩ = some v) (h1v : ∀ v ∈ vs, v.oneCell' = true) :
    Calls Try.prog 79 #[.slice (some ⟨b, off, none⟩) n c, .int .i64 n, .slice (some ⟨vb, voff, none⟩) m vc] w fun e w' =>
      e = .returned (.slice (some ⟨b, off, none⟩) (n + m) c) ∧ w' = w.setCells b (off + n) vs :=
  Any2.slices_Insert_string_end_room Try.laysNm222 b off n c vb voff m vc vs w hm hroom hc63 hvl hsp hfz hvs h1v

theorem slInsert_end_grow (base : Option Addr) (n c vb voff m vc : Nat) (cs vs : List Value) (w : World) (hm : 0 < m) (hnc : n ≤ c) (hroom : c < n + m) (hbig : (n + m) * 16 ≤ 140737488355328)
    (hcl : cs.length = n) (hvl : vs.length = m) (hnil : base = none → n = 0)
    (hcs : ∀ a, base = some a → ∀ j v, cs[j]? = some v → w.cell? (a.add j) = some v)
    (hvs : ∀ j v, vs[j]? = some v → w.cell? ⟨vb, voff + j, none⟩ = some v) (h1v : ∀ v ∈ vs, v.oneCell' = true) :
    Calls Try.prog 79 #[.slice base n c, .int .i64 n, .slice (some ⟨vb, voff, none⟩) m vc] w fun e w' =>
      e = .returned (.slice (some ⟨w.heap.size, 0, none⟩) (n + m) (grownCap w (n + m) c 9)) ∧
      w' = w.drew.alloc (.cells ((cs ++ vs).toArray ++ Builtin.zeroCells (Value.string ⟨#[]⟩).cells (grownCap w (n + m) c 9 - (n + m))) 9) :=
  Any2.slices_Insert_string_end_grow Try.laysNm222 base n c vb voff m vc cs vs w hm hnc hroom hbig hcl hvl hnil hcs hvs h1v

theorem slInsert_grow (b off n c i vb voff m vc : Nat) (cs vs : List Value) (w : World) (hi : i < n) (hm : 0 < m) (hnc : n ≤ c) (hroom : c < n + m) (hbig : (n + m) * 16 ≤ 140737488355328)
    (hcl : cs.length = n) (hvl : vs.length = m)
    (hcs : ∀ j v, cs[j]? = some v → w.cell? ⟨b, off + j, none⟩ = some v)
    (hvs : ∀ j v, vs[j]? = some v → w.cell? ⟨vb, voff + j, none⟩ = some v) (h1c : ∀ v ∈ cs, v.oneCell' = true) (h1v : ∀ v ∈ vs, v.oneCell' = true) :
    Calls Try.prog 79 #[.slice (some ⟨b, off, none⟩) n c, .int .i64 i, .slice (some ⟨vb, voff, none⟩) m vc] w fun e w' =>
      e = .returned (.slice (some ⟨w.heap.size, 0, none⟩) (n + m) (grownCap w (n + m) c 9)) ∧
      w' = (((w.alloc (.cells ((cs.take i).toArray ++ Builtin.zeroCells (Value.string ⟨#[]⟩).cells (n + m - i) ++ Builtin.zeroCells (Value.string ⟨#[]⟩).cells (grownCap w (n + m) c 9 - (n + m))) 9)).drew.setCells w.heap.size i vs).drew).setCells w.heap.size (i + m) (cs.drop i) :=
  Any2.slices_Insert_string_grow Try.laysNm222 b off n c i vb voff m vc cs vs w hi hm hnc hroom hbig hcl hvl hcs hvs h1c h1v
end Ytfcocbcihhdbkaa
end Go.Proofs

/- Put and Delete. -/
namespace Go.Proofs.Ytfcocbcihhdbkaa
open Go.RowKit

set_option maxRecDepth 100000 in
set_option maxHeartbeats 400000 in
theorem clone_any (s : ByteArray) (w : World) (hlim : s.size ≤ 281474976710656) :
    Calls Try.prog 49 #[.string s] w fun e w' => e = .returned (.string s) ∧ Keeps (fun _ => False) w w' := by
  go_enter Try.func49, Try.ntmps49
  go_wp2_with (go_at_call 67; go_must (refine (slClone_any s _ hlim).mono ?_; rintro e w1 ⟨rfl, hk1⟩))
  go_ret
  exact ⟨rfl, Keeps.below hk1⟩

theorem chg_new3 (w : World) (o1 o2 : Obj) : Chg (((w.alloc o1).alloc o2).alloc (.cells #[.slice none 0 0] 56)) (w.heap.size + 1 + 1) [] [w.heap.size + 1 + 1] := by
  have := chg_new (w.alloc o1) o2
  simpa using this

set_option maxRecDepth 100000 in
set_option maxHeartbeats 400000 in
theorem write_none (R : Rep) (n : Int) (key val : ByteArray) (gone : Bool) (w : World) (h : StoreAt w R) (hn : look R.works n = none) :
    Calls Try.prog 26 #[.pointer (some ⟨R.sb, 0, none⟩), .int .i64 n, .string key, .agg #[.int .i64 0, .string val, .bool gone]] w fun e w' => e = .returned (.int .i64 1) ∧ Keeps (fun _ => False) w w' := by
  have hmf : ∀ (fn : Fn) (first cap : Array Value) (w : World), (Instr.makeFunc fn first cap).run Try.prog w = .ok (.func fn first cap) w := fun _ _ _ _ => rfl
  have hf := find_any R n (((w.alloc (.cells #[.int .i64 0, .string val, .bool gone] 79)).alloc (.cells #[.int .i64 0] 28)).alloc (.cells #[.slice none 0 0] 56)) (h.kept ((((Keeps.refl (fun _ => False) w).al _).al _).al _) (fun _ _ h => h))
  rw [hn] at hf
  simp only [Option.map_none, Option.getD_none] at hf
  clear hn h
  generalize R.sb = sb at *
  go_enter_defers Try.func26, Try.ntmps26
  go_wp2_with (go_at_call 30; go_must (refine hf.mono ?_; rintro e w1 ⟨rfl, rfl⟩))
  refine leaves_cons (f := 47) (args := #[.pointer (some ⟨w.heap.size + 1 + 1, 0, none⟩), .pointer (some ⟨w.heap.size + 1, 0, none⟩)]) (by simp) (by simp [go_sem]) ?_
  refine (write1_none (w.heap.size + 1 + 1) (w.heap.size + 1) 1 (by omega) _ ?_ ?_).mono ?_
  · simp [go_sem]
  · simp [go_sem]
  rintro e u' w'' ⟨rfl, rfl, hk⟩
  have hb : w''.cell? ⟨w.heap.size + 1, 0, none⟩ = some (.int .i64 1) := hk.cell (p := ⟨w.heap.size + 1, 0, none⟩) (by simp [go_sem]) (fun h => h)
  simp [Leaves, settle, results, Try.results26, go_sem, hb]
  exact ((((Keeps.refl _ w).al _).al _).al _).tr hk (fun _ h => h)

set_option maxRecDepth 100000 in
set_option maxHeartbeats 400000 in
theorem write_text (R : Rep) (n : Int) (x : WkR) (key val : ByteArray) (gone : Bool) (w : World) (h : StoreAt w R) (hn : look R.works n = some x) (hk : key.size ≤ maxLen) (hv : val.size ≤ maxLen) (hb : keyB key = false ∨ valB val = false) :
    Calls Try.prog 26 #[.pointer (some ⟨R.sb, 0, none⟩), .int .i64 n, .string key, .agg #[.int .i64 0, .string val, .bool gone]] w fun e w' => e = .returned (.int .i64 2) ∧ Keeps (fun _ => False) w w' := by
  have hmf : ∀ (fn : Fn) (first cap : Array Value) (w : World), (Instr.makeFunc fn first cap).run Try.prog w = .ok (.func fn first cap) w := fun _ _ _ _ => rfl
  have hnot : ∀ (x : Bool) (w : World), (Op.unary .not (.bool x)).run Try.prog w = .ok (.bool (!x)) w := fun _ _ => rfl
  have hf := find_any R n (((w.alloc (.cells #[.int .i64 0, .string val, .bool gone] 79)).alloc (.cells #[.int .i64 0] 28)).alloc (.cells #[.slice none 0 0] 56)) (h.kept ((((Keeps.refl (fun _ => False) w).al _).al _).al _) (fun _ _ h => h))
  rw [hn] at hf
  simp only [Option.map_some, Option.getD_some, workPtr] at hf
  have hik := fun W => isKey_any key W hk
  have hiv := fun W => isValue_any val W hv
  clear hn h hk hv
  generalize R.sb = sb at *
  cases hkb : keyB key with
  | false =>
    simp only [hkb] at hik
    clear hkb hb hiv
    have HIK : Hid (∀ W, Calls Try.prog 33 #[.string key] W fun e w' => e = .returned (.bool false) ∧ w' = W) := hik
    clear hik
    go_enter_defers Try.func26, Try.ntmps26
    go_wp2_with (first
      | (go_at_call 30; go_must (refine hf.mono ?_; rintro e w1 ⟨rfl, rfl⟩))
      | (go_at_call 33; go_must (refine (HIK.out _).mono ?_; rintro e w1 ⟨rfl, rfl⟩)))
    refine leaves_cons (f := 47) (args := #[.pointer (some ⟨w.heap.size + 1 + 1, 0, none⟩), .pointer (some ⟨w.heap.size + 1, 0, none⟩)]) (by simp) (by simp [go_sem]) ?_
    refine (write1_none (w.heap.size + 1 + 1) (w.heap.size + 1) 2 (by omega) _ ?_ ?_).mono ?_
    · simp [go_sem]
    · simp [go_sem]
    rintro e u' w'' ⟨rfl, rfl, hk⟩
    have hb : w''.cell? ⟨w.heap.size + 1, 0, none⟩ = some (.int .i64 2) := hk.cell (p := ⟨w.heap.size + 1, 0, none⟩) (by simp [go_sem]) (fun h => h)
    simp [Leaves, settle, results, Try.results26, go_sem, hb]
    exact ((((Keeps.refl _ w).al _).al _).al _).tr hk (fun _ h => h)
  | true =>
    have hvb : valB val = false := by
      rcases hb with h | h
      · rw [hkb] at h; cases h
      · exact h
    simp only [hkb] at hik
    simp only [hvb] at hiv
    clear hkb hb hvb
    have HIK : Hid (∀ W, Calls Try.prog 33 #[.string key] W fun e w' => e = .returned (.bool true) ∧ w' = W) := hik
    have HIV : Hid (∀ W, Calls Try.prog 48 #[.string val] W fun e w' => e = .returned (.bool false) ∧ w' = W) := hiv
    clear hik hiv
    go_enter_defers Try.func26, Try.ntmps26
    go_wp2_with (first
      | (go_at_call 30; go_must (refine hf.mono ?_; rintro e w1 ⟨rfl, rfl⟩))
      | (go_at_call 33; go_must (refine (HIK.out _).mono ?_; rintro e w1 ⟨rfl, rfl⟩))
      | (go_at_call 48; go_must (refine (HIV.out _).mono ?_; rintro e w1 ⟨rfl, rfl⟩)))
    refine leaves_cons (f := 47) (args := #[.pointer (some ⟨w.heap.size + 1 + 1, 0, none⟩), .pointer (some ⟨w.heap.size + 1, 0, none⟩)]) (by simp) (by simp [go_sem]) ?_
    refine (write1_none (w.heap.size + 1 + 1) (w.heap.size + 1) 2 (by omega) _ ?_ ?_).mono ?_
    · simp [go_sem]
    · simp [go_sem]
    rintro e u' w'' ⟨rfl, rfl, hk⟩
    have hb : w''.cell? ⟨w.heap.size + 1, 0, none⟩ = some (.int .i64 2) := hk.cell (p := ⟨w.heap.size + 1, 0, none⟩) (by simp [go_sem]) (fun h => h)
    simp [Leaves, settle, results, Try.results26, go_sem, hb]
    exact ((((Keeps.refl _ w).al _).al _).al _).tr hk (fun _ h => h)

end Go.Proofs.Ytfcocbcihhdbkaa
