/- Last, see, Get. -/
import Derived.Test.YtfcocbcihhdbkaaS2
import Derived.Deep.RegionWith
import Derived.Deep.QuietTactic
import Derived.BigQuiet
namespace Go.Proofs.Ytfcocbcihhdbkaa
open Go.RowKit

/-- the last state that has put or deleted a key -/
def lastOf (vs : List Ver) : Int := (vs.getLast?.map Ver.state).getD 0

set_option maxRecDepth 100000 in
set_option maxHeartbeats 400000 in
theorem last_core (pb : Nat) (key : ByteArray) (vm : Option Nat) (l : List (ByteArray × Value)) (sl : Value) (vs : List Ver) (w : World) (hc : w.cell? ⟨pb, 8, none⟩ = some (.map vm)) (hm : OptMap Value.string w vm l) (hsl : (look l key).getD (.slice none 0 0) = sl)
    (hr : Row w 79 3 sl vs.length (vs.flatMap Ver.cells)) (hl : vs.length ≤ 1000000000000) :
    Calls Try.prog 51 #[.pointer (some ⟨pb, 7, none⟩), .string key] w fun e w' => e = .returned (.int .i64 (lastOf vs)) ∧ w' = w := by
  have HSL : Hid ((look l key).getD (.slice none 0 0) = sl) := hsl
  clear hsl
  rcases hr.shape with ⟨rfl, h0⟩ | ⟨g, cap, rfl, hcap1, hcap2⟩
  · obtain rfl : vs = [] := List.eq_nil_of_length_eq_zero h0
    clear hr h0
    go_enter Try.func51, Try.ntmps51
    go_wp2_with (at_lookup; go_must (refine wpList_lookup_opt _ rfl _ _ 62 rfl 9 99 strKeyOk Try.underlying62 Try.underlying9 _ (Try.zeroVersions _) vm rfl key rfl l hm ?_; rw [HSL.out]))
    go_ret
    exact ⟨rfl, rfl⟩
  · rcases Nat.eq_zero_or_pos vs.length with hz | hz
    · obtain rfl : vs = [] := List.eq_nil_of_length_eq_zero hz
      clear hr hz
      go_enter Try.func51, Try.ntmps51
      go_wp2_with (at_lookup; go_must (refine wpList_lookup_opt _ rfl _ _ 62 rfl 9 99 strKeyOk Try.underlying62 Try.underlying9 _ (Try.zeroVersions _) vm rfl key rfl l hm ?_; rw [HSL.out]))
      go_ret
      exact ⟨rfl, rfl⟩
    · obtain ⟨m, hm1⟩ : ∃ m, vs.length = m + 1 := ⟨vs.length - 1, by omega⟩
      have hmv : m < vs.length := by omega
      have HL : Hid (lastOf vs = vs[m].state) := by unfold Hid lastOf; rw [List.getLast?_eq_getElem?, hm1]; simp [hmv]
      obtain ⟨hv0, -, -⟩ := hr.ver m hmv
      have hcap : m + 1 ≤ cap := by omega
      have hl' : m + 1 ≤ 1000000000000 := by omega
      rw [hm1] at HSL
      rw [HL.out]
      generalize vs[m].state = st at hv0
      clear hr hl hz hcap1 HL hmv hm1
      go_enter Try.func51, Try.ntmps51
      go_wp2_with (at_lookup; go_must (refine wpList_lookup_opt _ rfl _ _ 62 rfl 9 99 strKeyOk Try.underlying62 Try.underlying9 _ (Try.zeroVersions _) vm rfl key rfl l hm ?_; rw [HSL.out]))
      go_ret
      exact ⟨rfl, rfl⟩

/-- what a work sees under a key: what it has written, else the version of the state at which it began -/
def seeVer (writes : List (ByteArray × Ver)) (vs : List Ver) (began : Int) (key : ByteArray) : Option Ver :=
  match look writes key with
  | some v => some v
  | none => atVer vs began

/-- does it stand there? -/
def standsB : Option Ver → Bool
  | some v => !v.gone
  | none => false

/-- An open work's cells. -/
theorem WorksAt.work {w : World} {R : Rep} (h : WorksAt w R) {n : Int} {x : WkR} (hx : (n, x) ∈ R.works) :
    w.cell? ⟨x.blk, 0, none⟩ = some (.int .i64 x.began) ∧ w.cell? ⟨x.blk, 1, none⟩ = some (.map (some x.mb)) ∧ MapAt Value.string w x.mb (x.writes.map fun q => (q.1, q.2.val)) := by
  obtain ⟨h1, h2⟩ := h.worksEach (n, x) hx
  exact ⟨cell_of_heap h1 0, cell_of_heap h1 1, h2⟩

set_option maxRecDepth 100000 in
set_option maxHeartbeats 400000 in
theorem see_mine (sb wb mb : Nat) (key : ByteArray) (l : List (ByteArray × Value)) (v : Ver) (w : World) (hc1 : w.cell? ⟨wb, 1, none⟩ = some (.map (some mb))) (hm : MapAt Value.string w mb l) (hv : look l key = some v.val) :
    Calls Try.prog 34 #[.pointer (some ⟨sb, 0, none⟩), .pointer (some ⟨wb, 0, none⟩), .string key] w fun e w' => e = .returned (.tuple #[.string v.value, .bool (!v.gone)]) ∧ Keeps (fun _ => False) w w' := by
  have HV : Hid (look l key = some v.val) := hv
  clear hv
  have hnot : ∀ (x : Bool) (w : World), (Op.unary .not (.bool x)).run Try.prog w = .ok (.bool (!x)) w := fun _ _ => rfl
  go_enter Try.func34, Try.ntmps34
  go_wp2_with (at_lookup; go_must (refine wpList_lookup_ok_at _ rfl _ _ 74 rfl 9 79 strKeyOk Try.underlying74 Try.underlying9 _ (Try.zeroVersion _) mb rfl key rfl l hm ?_; rw [HV.out]; simp only [Option.getD_some, Option.isSome_some, Ver.val]))
  go_region
  go_wp2
  go_ret2
  exact ⟨rfl, ((Keeps.refl _ w).al _).dr⟩

set_option maxRecDepth 100000 in
set_option maxHeartbeats 800000 in
theorem see_past (sb wb mb : Nat) (key : ByteArray) (l : List (ByteArray × Value)) (began : Int) (vm : Option Nat) (lp : List (ByteArray × Value)) (sl : Value) (vs : List Ver) (w : World) (hc0 : w.cell? ⟨wb, 0, none⟩ = some (.int .i64 began)) (hc1 : w.cell? ⟨wb, 1, none⟩ = some (.map (some mb))) (hm : MapAt Value.string w mb l) (hv : look l key = none)
    (hc : w.cell? ⟨sb, 8, none⟩ = some (.map vm)) (hmp : OptMap Value.string w vm lp) (hsl : (look lp key).getD (.slice none 0 0) = sl) (hr : Row w 79 3 sl vs.length (vs.flatMap Ver.cells)) (hs : Rising vs) (hl : vs.length ≤ 1000000000000) :
    Calls Try.prog 34 #[.pointer (some ⟨sb, 0, none⟩), .pointer (some ⟨wb, 0, none⟩), .string key] w fun e w' => e = .returned (.tuple #[.string ((atVer vs began).getD Ver.zero).value, .bool (standsB (atVer vs began))]) ∧ Keeps (fun _ => False) w w' := by
  have HV : Hid (look l key = none) := hv
  have HSL : Hid ((look lp key).getD (.slice none 0 0) = sl) := hsl
  have hlt : wb < w.heap.size := World.block_lt_of_cell? _ _ hc0
  have hlt2 : sb < w.heap.size := World.block_lt_of_cell? _ _ hc
  clear hv hsl
  have hnot : ∀ (x : Bool) (w : World), (Op.unary .not (.bool x)).run Try.prog w = .ok (.bool (!x)) w := fun _ _ => rfl
  have hat := fun W (hk : Keeps (fun _ => False) w W) => at_core sb key began vm lp sl vs W (hk.cell (p := ⟨sb, 8, none⟩) hc (fun h => h)) (hmp.kept hk (fun _ _ h => h)) HSL.out (hr.kept hk (fun _ _ h => h)) hs hl
  have HAT : Hid (∀ W, Keeps (fun _ => False) w W → Calls Try.prog 53 #[.pointer (some ⟨sb, 7, none⟩), .string key, .int .i64 began] W fun e w' => e = .returned (.tuple #[((atVer vs began).getD Ver.zero).val, .bool (atVer vs began).isSome]) ∧ Keeps (fun _ => False) W w') := hat
  clear hat hr hs hl hmp
  cases hov : atVer vs began with
  | none =>
    rw [hov] at HAT
    simp only [Option.getD_none, Option.isSome_none, Ver.val, Ver.zero, standsB] at HAT ⊢
    clear hov
    go_enter Try.func34, Try.ntmps34
    go_wp2_with (at_lookup; go_must (refine wpList_lookup_ok_at _ rfl _ _ 74 rfl 9 79 strKeyOk Try.underlying74 Try.underlying9 _ (Try.zeroVersion _) mb rfl key rfl l hm ?_; rw [HV.out]; simp only [Option.getD_none, Option.isSome_none]))
    go_region_with (go_at_call 53; go_must (refine (HAT.out _ (((Keeps.refl _ w).al _).dr)).mono ?_; rintro e w1 ⟨rfl, hk1⟩; obtain ⟨hx0, hx1, hx2, hy0, hy1, hy2⟩ := three_cells (box_kept ((Keeps.drew (fun _ => False) _).tr hk1 (fun _ h => h)) (fun h => h))))
    simp only [List.getElem_toArray, List.getElem_cons_succ, List.getElem_cons_zero, Act.put, List.setIfInBounds_toArray, List.set_cons_succ, List.set_cons_zero]
    go_wp2
    go_region
    go_wp2
    go_ret2
    refine ⟨rfl, ?_⟩
    exact ((((((Keeps.refl _ w).al _).dr).tr hk1 (fun _ h => h)).st (.inl (Nat.le_refl _)) _ |>.st (.inl (Nat.le_refl _)) _).st (.inl (Nat.le_refl _)) _).dr
  | some v =>
    rw [hov] at HAT
    simp only [Option.getD_some, Option.isSome_some, Ver.val, standsB] at HAT ⊢
    clear hov
    go_enter Try.func34, Try.ntmps34
    go_wp2_with (at_lookup; go_must (refine wpList_lookup_ok_at _ rfl _ _ 74 rfl 9 79 strKeyOk Try.underlying74 Try.underlying9 _ (Try.zeroVersion _) mb rfl key rfl l hm ?_; rw [HV.out]; simp only [Option.getD_none, Option.isSome_none]))
    go_region_with (go_at_call 53; go_must (refine (HAT.out _ (((Keeps.refl _ w).al _).dr)).mono ?_; rintro e w1 ⟨rfl, hk1⟩; obtain ⟨hx0, hx1, hx2, hy0, hy1, hy2⟩ := three_cells (box_kept ((Keeps.drew (fun _ => False) _).tr hk1 (fun _ h => h)) (fun h => h))))
    simp only [List.getElem_toArray, List.getElem_cons_succ, List.getElem_cons_zero, Act.put, List.setIfInBounds_toArray, List.set_cons_succ, List.set_cons_zero]
    go_wp2
    go_region
    go_wp2
    go_ret2
    refine ⟨rfl, ?_⟩
    exact ((((((Keeps.refl _ w).al _).dr).tr hk1 (fun _ h => h)).st (.inl (Nat.le_refl _)) _ |>.st (.inl (Nat.le_refl _)) _).st (.inl (Nat.le_refl _)) _).dr

end Go.Proofs.Ytfcocbcihhdbkaa
