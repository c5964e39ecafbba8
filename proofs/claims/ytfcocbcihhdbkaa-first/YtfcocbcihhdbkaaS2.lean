/- What has been: upTo, At, Last. -/
import Derived.Test.YtfcocbcihhdbkaaS1
namespace Go.Proofs.Ytfcocbcihhdbkaa
open Go.RowKit

/-- how many of a key's versions are not above a state -/
def upN (vs : List Ver) (t : Int) : Nat := (vs.takeWhile (fun v => decide (v.state ≤ t))).length

/-- versions in rising order of their states -/
def Rising (vs : List Ver) : Prop := vs.Pairwise (fun a b => a.state < b.state)

theorem upN_eq : ∀ {vs : List Ver} {t : Int} {r : Nat}, r ≤ vs.length → (∀ j (h : j < vs.length), j < r → vs[j].state ≤ t) → (∀ j (h : j < vs.length), r ≤ j → t < vs[j].state) → upN vs t = r
  | [], t, r, h, _, _ => by simp at h; subst h; rfl
  | v :: vs, t, 0, _, _, h2 => by
    have := h2 0 (by simp) (by omega)
    simp only [List.getElem_cons_zero] at this
    simp [upN, List.takeWhile_cons]
    omega
  | v :: vs, t, r + 1, h, h1, h2 => by
    have h0 := h1 0 (by simp) (by omega)
    simp only [List.getElem_cons_zero] at h0
    have ih := upN_eq (vs := vs) (t := t) (r := r) (by simpa using h) (fun j hj hr => h1 (j + 1) (by simpa using hj) (by omega)) (fun j hj hr => h2 (j + 1) (by simpa using hj) (by omega))
    unfold upN at ih ⊢
    simp [h0, ih]

theorem upN_le (vs : List Ver) (t : Int) : upN vs t ≤ vs.length := by
  unfold upN
  exact (List.takeWhile_sublist _).length_le

theorem cells_at : ∀ (vs : List Ver) (j : Nat) (r : Nat) (hj : j < vs.length), r < 3 → (vs.flatMap Ver.cells)[j * 3 + r]? = vs[j].cells[r]?
  | v :: vs, 0, r, _, hr => by
    simp only [List.flatMap_cons, Nat.zero_mul, Nat.zero_add, List.getElem_cons_zero]
    rw [List.getElem?_append_left (by simpa [Ver.cells] using hr)]
  | v :: vs, j + 1, r, hj, hr => by
    simp only [List.flatMap_cons, List.getElem_cons_succ]
    rw [List.getElem?_append_right (by simp [Ver.cells]; omega)]
    have e : (j + 1) * 3 + r - v.cells.length = j * 3 + r := by simp [Ver.cells]; omega
    rw [e]
    exact cells_at vs j r (by simpa using hj) hr

theorem cells_length (vs : List Ver) : (vs.flatMap Ver.cells).length = vs.length * 3 := by
  induction vs with
  | nil => rfl
  | cons v vs ih => simp only [List.flatMap_cons, List.length_append, ih, List.length_cons]; simp [Ver.cells]; omega

/-- A version's three cells, in a slice of versions. -/
theorem Row.ver {w : World} {g cap : Nat} {vs : List Ver} (h : Row w 79 3 (.slice (some ⟨g, 0, none⟩) vs.length cap) vs.length (vs.flatMap Ver.cells)) (j : Nat) (hj : j < vs.length) :
    w.cell? ⟨g, j * 3, none⟩ = some (.int .i64 vs[j].state) ∧ w.cell? ⟨g, j * 3 + 1, none⟩ = some (.string vs[j].value) ∧ w.cell? ⟨g, j * 3 + 2, none⟩ = some (.bool vs[j].gone) := by
  refine ⟨?_, ?_, ?_⟩
  · rw [h.cellAt (j * 3) (by omega)]; exact cells_at vs j 0 hj (by omega)
  · rw [h.cellAt (j * 3 + 1) (by omega)]; exact cells_at vs j 1 hj (by omega)
  · rw [h.cellAt (j * 3 + 2) (by omega)]; exact cells_at vs j 2 hj (by omega)

theorem Rising.le {vs : List Ver} (h : Rising vs) {i j : Nat} (hij : i ≤ j) (hj : j < vs.length) : vs[i].state ≤ vs[j].state := by
  rcases Nat.lt_or_eq_of_le hij with hl | rfl
  · exact Int.le_of_lt (List.pairwise_iff_getElem.1 h i j (by omega) hj hl)
  · exact Int.le_refl _

set_option maxRecDepth 100000 in
set_option maxHeartbeats 400000 in
/-- sort.Search among none -/
theorem search_zero (ab tb : Nat) (w : World) :
    Calls Try.prog 81 #[.int .i64 0, .func (.func 82) #[] #[.pointer (some ⟨ab, 0, none⟩), .pointer (some ⟨tb, 0, none⟩)]] w fun e w' => e = .returned (.int .i64 0) ∧ w' = w := by
  go_enter Try.func81, Try.ntmps81
  go_wp2
  go_loopw [5, 6] (fun x y wr => x = .int .i64 0 ∧ y = .int .i64 0 ∧ wr = w) (fun _ _ _ => 0)
  case atStart => exact ⟨rfl, rfl, rfl⟩
  case round =>
    obtain ⟨rfl, rfl, rfl⟩ := hrel
    go_wp2
    go_ret
    exact ⟨rfl, rfl⟩

set_option maxRecDepth 100000 in
set_option maxHeartbeats 400000 in
theorem upTo_nil (t : Int) (w : World) :
    Calls Try.prog 72 #[.slice none 0 0, .int .i64 t] w fun e w' => e = .returned (.int .i64 0) ∧ Keeps (fun _ => False) w w' := by
  have hmf : ∀ (fn : Fn) (first cap : Array Value) (w : World), (Instr.makeFunc fn first cap).run Try.prog w = .ok (.func fn first cap) w := fun _ _ _ _ => rfl
  go_enter Try.func72, Try.ntmps72
  go_wp2_with (go_at_call 81; go_must (refine (search_zero _ _ _).mono ?_; rintro e w1 ⟨rfl, rfl⟩))
  go_ret
  exact ⟨rfl, ((Keeps.refl _ w).al _).al _⟩

set_option maxRecDepth 100000 in
set_option maxHeartbeats 400000 in
theorem upTo_some (g cap : Nat) (vs : List Ver) (t : Int) (w : World) (h : Row w 79 3 (.slice (some ⟨g, 0, none⟩) vs.length cap) vs.length (vs.flatMap Ver.cells)) (hs : Rising vs) (hl : vs.length ≤ 1000000000000) :
    Calls Try.prog 72 #[.slice (some ⟨g, 0, none⟩) vs.length cap, .int .i64 t] w fun e w' => e = .returned (.int .i64 (upN vs t)) ∧ Keeps (fun _ => False) w w' := by
  have hmf : ∀ (fn : Fn) (first cap : Array Value) (w : World), (Instr.makeFunc fn first cap).run Try.prog w = .ok (.func fn first cap) w := fun _ _ _ _ => rfl
  have hh : ∀ (o1 o2 : Obj), Row ((w.alloc o1).alloc o2) 79 3 (.slice (some ⟨g, 0, none⟩) vs.length cap) vs.length (vs.flatMap Ver.cells) := fun o1 o2 => (h.kept (Keeps.alloc (fun _ => False) w o1) (fun _ _ h => h)).kept (Keeps.alloc (fun _ => False) _ o2) (fun _ _ h => h)
  have hc : ∀ (o1 o2 : Obj), ∀ j, j < vs.length → ((w.alloc o1).alloc o2).cell? ⟨g, j * 3, none⟩ = some (.int .i64 ((vs[j]?.map Ver.state).getD 0)) := fun o1 o2 j hj => by
    rw [((hh o1 o2).ver j hj).1]; simp [hj]
  have hst : ∀ i j, i ≤ j → j < vs.length → (vs[i]?.map Ver.state).getD 0 ≤ (vs[j]?.map Ver.state).getD 0 := fun i j hij hj => by
    have hi : i < vs.length := by omega
    simpa [hi, hj] using hs.le hij hj
  go_enter Try.func72, Try.ntmps72
  go_wp2_with (go_at_call 81; go_must (refine (search_any vs.length w.heap.size (w.heap.size + 1) g cap t (fun j => (vs[j]?.map Ver.state).getD 0) _ hl (by rw [World.cell?_alloc_past _ _ _ (by simp), World.cell?_alloc_at _ _ _ _ rfl]; rfl) (by rw [World.cell?_alloc_at _ _ _ _ (by simp)]; rfl) (hc _ _) hst).mono ?_; rintro e w1 ⟨r, rfl, hr1, hr2, hr3, hk1⟩))
  go_ret
  have e : upN vs t = r := upN_eq hr1 (fun j hj hjr => by simpa [hj] using hr2 j hjr) (fun j hj hjr => by simpa [hj] using hr3 j hjr hj)
  exact ⟨by rw [e]; rfl, (((Keeps.refl _ w).al _).al _).tr hk1 (fun _ h => h)⟩

/-- a key's versions -/
def versOf (hist : List (ByteArray × HsR)) (key : ByteArray) : List Ver := ((look hist key).map HsR.vers).getD []

/-- a key's version of a state -/
def atVer (vs : List Ver) (t : Int) : Option Ver := if upN vs t = 0 then none else vs[upN vs t - 1]?

def Ver.zero : Ver := ⟨0, ByteArray.empty, false⟩

theorem Try.zeroVersions (w : World) : (zeroValue 99).run Try.prog w = .ok (.slice none 0 0) w := by kernel_rfl

/-- The slice that stands at a key. -/
theorem PastAt.slice {w : World} {kv : Value} {keys : List ByteArray} {vm : Option Nat} {hist : List (ByteArray × HsR)} (h : PastAt w kv keys vm hist) (key : ByteArray) :
    Row w 79 3 ((look (hist.map fun p => (p.1, p.2.sl)) key).getD (.slice none 0 0)) (versOf hist key).length ((versOf hist key).flatMap Ver.cells) := by
  rw [look_map]
  unfold versOf
  cases hl : look hist key with
  | none => exact Row.nil _ _ _
  | some x => exact h.histEach (key, x) (look_mem hl)

/-- .. written out -/
theorem Row.shape {w : World} {e : TypeId} {size : Nat} {v : Value} {n : Nat} {xs : List Value} (h : Row w e size v n xs) : (v = .slice none 0 0 ∧ n = 0) ∨ ∃ g cap, v = .slice (some ⟨g, 0, none⟩) n cap ∧ n ≤ cap ∧ cap ≤ maxLen := by
  rcases h.2 with h | ⟨g, cap, cur, hv, _, h1, h2, _⟩
  · exact .inl h
  · exact .inr ⟨g, cap, hv, h1, h2⟩

theorem at_results (W : World) (b : Nat) (x y z : Value) (f : Bool) (tmps : Array Value) (h6 : tmps.getD 6 undef = .pointer (some ⟨b, 0, none⟩)) (h7 : tmps.getD 7 undef = .bool f) (h : W.heap[b]? = some (.cells #[x, y, z] 79 (0, 0))) :
    (results Try.f53 tmps).run Try.prog W = .ok (.tuple #[.agg #[x, y, z], .bool f]) W := by
  obtain ⟨hz0, hz1, hz2, -, -, -⟩ := three_cells h
  simp only [Array.getD_eq_getD_getElem?] at h6 h7
  simp [results, Try.results53, go_sem, h6, h7, hz0, hz1, hz2]

set_option maxRecDepth 100000 in
set_option maxHeartbeats 400000 in
theorem at_core (pb : Nat) (key : ByteArray) (t : Int) (vm : Option Nat) (l : List (ByteArray × Value)) (sl : Value) (vs : List Ver) (w : World) (hc : w.cell? ⟨pb, 8, none⟩ = some (.map vm)) (hm : OptMap Value.string w vm l) (hsl : (look l key).getD (.slice none 0 0) = sl)
    (hr : Row w 79 3 sl vs.length (vs.flatMap Ver.cells)) (hs : Rising vs) (hl : vs.length ≤ 1000000000000) :
    Calls Try.prog 53 #[.pointer (some ⟨pb, 7, none⟩), .string key, .int .i64 t] w fun e w' => e = .returned (.tuple #[((atVer vs t).getD Ver.zero).val, .bool (atVer vs t).isSome]) ∧ Keeps (fun _ => False) w w' := by
  have hlt : pb < w.heap.size := World.block_lt_of_cell? _ _ hc
  have HSL : Hid ((look l key).getD (.slice none 0 0) = sl) := hsl
  clear hsl
  have hmz : OptMap Value.string (w.alloc (.cells #[.int .i64 0, .string ByteArray.empty, .bool false] 79)) vm l := hm.kept (Keeps.alloc (fun _ => False) _ _) (fun _ _ h => h)
  rcases hr.shape with ⟨rfl, h0⟩ | ⟨g, cap, rfl, hcap1, hcap2⟩
  · obtain rfl : vs = [] := List.eq_nil_of_length_eq_zero h0
    clear hr h0
    go_enter Try.func53, Try.ntmps53
    go_wp2_with (first
      | (at_lookup; go_must (refine wpList_lookup_opt _ rfl _ _ 62 rfl 9 99 strKeyOk Try.underlying62 Try.underlying9 _ (Try.zeroVersions _) vm rfl key rfl l hmz ?_; rw [HSL.out]))
      | (go_at_call 72; go_must (refine (upTo_nil t _).mono ?_; rintro e w1 ⟨rfl, hk1⟩; obtain ⟨hx0, hx1, hx2, hy0, hy1, hy2⟩ := three_cells (box_kept hk1 (fun h => h)))))
    refine bodyPost_ret (at_results _ _ _ _ _ _ _ rfl rfl (heap_set3 (box_kept hk1 (fun h => h)) _ _ _)) rfl ⟨rfl, ?_⟩
    exact ((((Keeps.refl _ w).al _).tr hk1 (fun _ h => h)).st (.inl (Nat.le_refl _)) _ |>.st (.inl (Nat.le_refl _)) _).st (.inl (Nat.le_refl _)) _
  · have hu := upN_le vs t
    have hct := fun W hW => upTo_some g cap vs t W hW hs hl
    have hr1 : Row (w.alloc (.cells #[.int .i64 0, .string ByteArray.empty, .bool false] 79)) 79 3 (.slice (some ⟨g, 0, none⟩) vs.length cap) vs.length (vs.flatMap Ver.cells) := hr.kept (Keeps.alloc (fun _ => False) _ _) (fun _ _ h => h)
    have hcall := hct _ hr1
    clear hct
    rcases Nat.eq_zero_or_pos (upN vs t) with hz | hz
    · have HA : Hid (atVer vs t = none) := by unfold Hid atVer; rw [if_pos hz]
      rw [hz] at hcall
      clear hz hu hr1
      go_enter Try.func53, Try.ntmps53
      go_wp2_with (first
        | (at_lookup; go_must (refine wpList_lookup_opt _ rfl _ _ 62 rfl 9 99 strKeyOk Try.underlying62 Try.underlying9 _ (Try.zeroVersions _) vm rfl key rfl l hmz ?_; rw [HSL.out]))
        | (go_at_call 72; go_must (refine hcall.mono ?_; rintro e w1 ⟨rfl, hk1⟩; obtain ⟨hx0, hx1, hx2, hy0, hy1, hy2⟩ := three_cells (box_kept hk1 (fun h => h)))))
      rw [HA.out]
      refine bodyPost_ret (at_results _ _ _ _ _ _ _ rfl rfl (heap_set3 (box_kept hk1 (fun h => h)) _ _ _)) rfl ⟨rfl, ?_⟩
      exact ((((Keeps.refl _ w).al _).tr hk1 (fun _ h => h)).st (.inl (Nat.le_refl _)) _ |>.st (.inl (Nat.le_refl _)) _).st (.inl (Nat.le_refl _)) _
    · obtain ⟨m, hm⟩ : ∃ m, upN vs t = m + 1 := ⟨upN vs t - 1, by omega⟩
      have hmv : m < vs.length := by omega
      have HA : Hid (atVer vs t = some vs[m]) := by unfold Hid atVer; rw [if_neg (by omega), hm]; simp [hmv]
      have HR : Hid (Row (w.alloc (.cells #[.int .i64 0, .string ByteArray.empty, .bool false] 79)) 79 3 (.slice (some ⟨g, 0, none⟩) vs.length cap) vs.length (vs.flatMap Ver.cells)) := hr1
      rw [hm] at hcall
      clear hm hz hu hr1
      go_enter Try.func53, Try.ntmps53
      go_wp2_with (first
        | (at_lookup; go_must (refine wpList_lookup_opt _ rfl _ _ 62 rfl 9 99 strKeyOk Try.underlying62 Try.underlying9 _ (Try.zeroVersions _) vm rfl key rfl l hmz ?_; rw [HSL.out]))
        | (go_at_call 72; go_must (refine hcall.mono ?_; rintro e w1 ⟨rfl, hk1⟩; obtain ⟨hx0, hx1, hx2, hy0, hy1, hy2⟩ := three_cells (box_kept hk1 (fun h => h)); obtain ⟨hv0, hv1, hv2⟩ := (HR.out.kept hk1 (fun _ _ h => h)).ver m hmv)))
      rw [HA.out]
      refine bodyPost_ret (at_results _ _ _ _ _ _ _ rfl rfl (heap_set3 (box_kept hk1 (fun h => h)) _ _ _)) rfl ⟨rfl, ?_⟩
      exact ((((Keeps.refl _ w).al _).tr hk1 (fun _ h => h)).st (.inl (Nat.le_refl _)) _ |>.st (.inl (Nat.le_refl _)) _).st (.inl (Nat.le_refl _)) _

end Go.Proofs.Ytfcocbcihhdbkaa
