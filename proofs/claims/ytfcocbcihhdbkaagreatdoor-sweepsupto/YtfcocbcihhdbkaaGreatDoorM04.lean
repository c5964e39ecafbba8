import Derived.Test.YtfcocbcihhdbkaaGreatDoorM03
import Derived.Shelf.LaysM
import Derived.Shelf.SlGeneric
import Derived.Shelf.Strconv.Clone
import Derived.Shelf.Spec.SearchS
import Derived.Shelf.Spec.SlicesInsert
import Derived.Shelf.Spec.SlicesInsertGrow
import Derived.Shelf.Slices.Delete
import Derived.Shelf.Slices.Cells
import Derived.Shelf.SlIter.Nil
import Derived.Shelf.SortM.Plain
import Derived.Shelf.SortM.SortNone
import Derived.Ground.Names2Prog
import Derived.Ground.GgzProg
import Derived.Ground.SlgmProg
import Derived.Test.YtfcocbcihhdbkaaGreatDoorProg

/- Abort. -/
namespace Go.Proofs.YtfcocbcihhdbkaaGreatDoor
open Go.RowKit

theorem del_sublist {α β : Type} [DecidableEq α] (l : List (α × β)) (k : α) : (del l k).Sublist l := by
  induction l with
  | nil => exact List.Sublist.refl _
  | cons p r ih =>
    obtain ⟨a, x⟩ := p
    unfold del
    split
    · exact List.sublist_cons_self _ _
    · exact List.Sublist.cons_cons _ ih

theorem flatMap_sublist {α β : Type} (f : α → List β) {l l' : List α} (h : l.Sublist l') : (l.flatMap f).Sublist (l'.flatMap f) := by
  induction h with
  | slnil => exact List.Sublist.refl _
  | cons a _ ih => simp only [List.flatMap_cons]; exact ih.trans (List.sublist_append_right _ _)
  | cons_cons a _ ih => simp only [List.flatMap_cons]; exact List.Sublist.append (List.Sublist.refl _) ih

theorem fp_del {R : Rep} {n : Int} : (Rep.fp { R with works := del R.works n }).Sublist R.fp := by
  simp only [Rep.fp, Rep.fpWorks, Rep.fpPast]
  exact List.Sublist.cons_cons _ (List.Sublist.append (List.Sublist.append (List.Sublist.refl _) (flatMap_sublist _ (del_sublist _ _))) (List.Sublist.refl _))

/-- A work is over. -/
theorem StoreAt.removed {w w' : World} {R : Rep} {C : List Nat} {b0 : Nat} {n : Int} (h : StoreAt w R) (hwm : R.wm = some b0) (hC : ∀ k ∈ C, k ∉ R.fp) (hk : Keeps (fun k => k ∈ C ∨ k = b0) w w')
    (hm : MapAt (Value.int .i64) w' b0 (del (R.works.map fun p => (p.1, workPtr p.2)) n)) : StoreAt w' { R with works := del R.works n } := by
  have hnd := h.nodup
  have hfpW : R.fpWorks = b0 :: (pcOf R.pm R.cm ++ R.works.flatMap (fun p => [p.2.blk, p.2.mb])) := by simp [Rep.fpWorks, hwm]
  have hnb : ∀ k, k ∈ R.sb :: ((pcOf R.pm R.cm ++ R.works.flatMap (fun p => [p.2.blk, p.2.mb])) ++ R.fpPast) → ¬ (k ∈ C ∨ k = b0) := by
    intro k hk'
    rintro (hc | rfl)
    · refine hC k hc ?_
      simp only [Rep.fp, hfpW, List.mem_cons, List.mem_append] at hk' ⊢
      rcases hk' with h | h | h
      · exact .inl h
      · exact .inr (.inl (.inr h))
      · exact .inr (.inr h)
    · simp only [Rep.fp, hfpW, List.cons_append, List.nodup_cons, List.mem_cons, List.mem_append, not_or] at hnd
      simp only [List.mem_cons, List.mem_append] at hk'
      rcases hk' with h | h | h
      · exact hnd.1.1 h.symm
      · rcases h with h | h
        · exact hnd.2.1.1.1 h
        · exact hnd.2.1.1.2 h
      · exact hnd.2.1.2 h
  refine ⟨?_, ⟨?_, ?_, ?_, ?_⟩, ?_, ?_⟩
  · exact (hk.block R.sb h.lt (hnb _ (by simp))).trans h.top
  · show OptMap _ _ R.wm _
    rw [hwm]
    show MapAt _ _ _ _
    rw [← del_map]
    exact hm
  · intro p hp
    have hp' : p ∈ R.works := (del_sublist _ _).subset hp
    obtain ⟨h1, h2⟩ := h.works.worksEach p hp'
    have hm1 : p.2.blk ∈ R.works.flatMap (fun p => [p.2.blk, p.2.mb]) := List.mem_flatMap.2 ⟨p, hp', by simp⟩
    have hm2 : p.2.mb ∈ R.works.flatMap (fun p => [p.2.blk, p.2.mb]) := List.mem_flatMap.2 ⟨p, hp', by simp⟩
    exact ⟨(hk.block _ (Array.getElem?_eq_some_iff.1 h1).1 (hnb _ (by simp [hm1]))).trans h1, h2.kept hk (hnb _ (by simp [hm2]))⟩
  · exact h.works.pinsMap.kept hk (fun b hb => hnb _ (by simp [pcOf, hb]))
  · exact h.works.copyMap.kept hk (fun b hb => hnb _ (by simp [pcOf, hb]))
  · exact h.past.kept hk (fun k hk' => hnb _ (List.mem_cons_of_mem _ (List.mem_append_right _ hk')))
  · exact hnd.sublist fp_del

theorem wm_some {w : World} {R : Rep} (h : StoreAt w R) {n : Int} {x : WkR} (hn : look R.works n = some x) : ∃ b0, R.wm = some b0 := by
  cases hw : R.wm with
  | some b => exact ⟨b, rfl⟩
  | none =>
    have := h.works.worksMap
    rw [hw] at this
    have e : R.works = [] := List.map_eq_nil_iff.1 this
    rw [e] at hn
    cases hn

set_option maxRecDepth 100000 in
set_option maxHeartbeats 400000 in
theorem abort_none (R : Rep) (n : Int) (w : World) (h : StoreAt w R) (hn : look R.works n = none) :
    Calls Tryz.prog 56 #[.pointer (some ⟨R.sb, 0, none⟩), .int .i64 n] w fun e w' => e = .returned (.int .i64 1) ∧ Keeps (fun _ => False) w w' := by
  have hmf : ∀ (fn : Fn) (first cap : Array Value) (w : World), (Instr.makeFunc fn first cap).run Tryz.prog w = .ok (.func fn first cap) w := fun _ _ _ _ => rfl
  have hf := find_any R n ((w.alloc (.cells #[.int .i64 0] 53)).alloc (.cells #[.slice none 0 0] 115)) (h.kept (((Keeps.refl (fun _ => False) w).al _).al _) (fun _ _ h => h))
  rw [hn] at hf
  simp only [Option.map_none, Option.getD_none] at hf
  clear hn h
  generalize R.sb = sb at *
  go_enter_defers Tryz.func56, Tryz.ntmps56
  go_wp2_with (go_at_call 97; go_must (refine hf.mono ?_; rintro e w1 ⟨rfl, rfl⟩))
  refine leaves_cons (f := 108) (args := #[.pointer (some ⟨w.heap.size + 1, 0, none⟩), .pointer (some ⟨w.heap.size, 0, none⟩)]) (by simp) (by simp [go_sem]) ?_
  refine (abort1_none (w.heap.size + 1) w.heap.size 1 (by omega) _ ?_ ?_).mono ?_
  · simp [go_sem]
  · simp [go_sem]
  rintro e u' w'' ⟨rfl, rfl, hk⟩
  have hb : w''.cell? ⟨w.heap.size, 0, none⟩ = some (.int .i64 1) := hk.cell (p := ⟨w.heap.size, 0, none⟩) (by simp [go_sem]) (fun h => h)
  simp [Leaves, settle, results, Tryz.results56, go_sem, hb]
  exact (((Keeps.refl _ w).al _).al _).tr hk (fun _ h => h)

set_option maxRecDepth 100000 in
set_option maxHeartbeats 600000 in
theorem abort_some (R : Rep) (n : Int) (x : WkR) (w : World) (h : StoreAt w R) (hn : look R.works n = some x) :
    Calls Tryz.prog 56 #[.pointer (some ⟨R.sb, 0, none⟩), .int .i64 n] w fun e w' => e = .returned (.int .i64 0) ∧ StoreAt w' { R with works := del R.works n } ∧ Keeps (· ∈ R.fp) w w' := by
  obtain ⟨b0, hwm⟩ := wm_some h hn
  have hmf : ∀ (fn : Fn) (first cap : Array Value) (w : World), (Instr.makeFunc fn first cap).run Tryz.prog w = .ok (.func fn first cap) w := fun _ _ _ _ => rfl
  have hW := h.kept (((Keeps.refl (fun _ => False) w).al (.cells #[.int .i64 0] 53)).al (.cells #[.slice none 0 0] 115)) (fun _ _ h => h)
  have hf := find_any R n _ hW
  rw [hn] at hf
  simp only [Option.map_some, Option.getD_some, workPtr] at hf
  have hM : MapAt (Value.int .i64) ((w.alloc (.cells #[.int .i64 0] 53)).alloc (.cells #[.slice none 0 0] 115)) b0 (R.works.map fun p => (p.1, workPtr p.2)) := by have := hW.works.worksMap; rw [hwm] at this; exact this
  have c3 : w.cell? ⟨R.sb, 3, none⟩ = some (.map (some b0)) := (h.cell 3).trans (by rw [← hwm]; rfl)
  have hlt := h.lt
  have hbf : b0 ∈ R.fp := by simp [Rep.fp, Rep.fpWorks, hwm]
  have hbl := fp_lt h _ hbf
  have hrm := remove_work (w.heap.size + 1) [] [w.heap.size + 1] b0 n _ (some ⟨x.blk, 0, none⟩) _ (chg_new w _) hM (by rw [look_map, hn]; rfl) (by simp; omega) (by simp)
  have HST : Hid (StoreAt w R) := h
  have HWM : Hid (R.wm = some b0) := hwm
  clear hW hM hn h hwm
  go_enter_defers Tryz.func56, Tryz.ntmps56
  go_wp2_with (first
    | (go_at_call 97; go_must (refine hf.mono ?_; rintro e w1 ⟨rfl, rfl⟩))
    | (go_at_call 98; go_must (refine hrm.mono ?_; rintro e w1 ⟨rfl, fs1, C1, hf1, hC1, hk1, hC1', hm1⟩; have hE0 : w1.heap[w.heap.size]? = some (.cells #[.int .i64 0] 53 (0, 0)) := ((hk1.block w.heap.size (by simp; omega) (by rintro (hc | hc); (simp at hc); omega)).trans (Below.heap_alloc _ _ _ (by simp))).trans (heap_new w _); have y0 : w1.cell? ⟨w.heap.size, 0, none⟩ = some (.int .i64 0) := cell_of_heap hE0 0; have y1 : w1.frozen? ⟨w.heap.size, 0, none⟩ = false := frozen_of_heap hE0 0; have HE0 : Hid (w1.heap[w.heap.size]? = some (.cells #[.int .i64 0] 53 (0, 0))) := hE0; clear hE0)))
  refine leaves_cons (f := 108) (args := #[.pointer (some ⟨w.heap.size + 1, 0, none⟩), .pointer (some ⟨w.heap.size, 0, none⟩)]) (by simp) (by simp [go_sem]) ?_
  have hE1 := heap_setCell_same (i := 0) HE0.out (.int .i64 0)
  refine (abort1_ok (w.heap.size + 1) w.heap.size _ ?_).mono ?_
  · exact cell_of_heap hE1 0
  rintro e u' w'' ⟨rfl, rfl, rfl⟩
  have hpost : StoreAt (w1.setCell ⟨w.heap.size, 0, none⟩ (.int .i64 0)) { R with works := del R.works n } ∧ Keeps (· ∈ R.fp) w (w1.setCell ⟨w.heap.size, 0, none⟩ (.int .i64 0)) := by
    have s1 := (HST.out.kept (((Keeps.refl (fun _ => False) w).al _).al _) (fun _ _ h => h)).removed HWM.out (fun k hk hf => by have := fp_lt HST.out k hf; simp at hk; omega) hk1 hm1
    refine ⟨s1.kept (Keeps.setCell _ _ _) (fun k hk e => ?_), ?_⟩
    · have e' : k = w.heap.size := e
      have := fp_lt HST.out k (fp_del.subset hk)
      omega
    · refine ((((Keeps.refl (· ∈ R.fp) w).al _).al _).trans hk1 (fun k hk h => ?_)).st (.inl (Nat.le_refl _)) _
      rcases h with h | rfl
      · simp at h; omega
      · exact hbf
  have hb := cell_of_heap hE1 0
  generalize w1.setCell ⟨w.heap.size, 0, none⟩ (.int .i64 0) = W3 at hpost hb
  simp at hb
  simp [Leaves, settle, results, Tryz.results56, go_sem, hb]
  exact hpost

end Go.Proofs.YtfcocbcihhdbkaaGreatDoor

/- The library's facts that the walks lean on, at this program: numbers of functions and types, and one theorem each. -/
namespace Go.Proofs
open Go.Shelf
def Tryz.laysM316_ren : Go.Shelf.Ren := ⟨fun | 316 => 211 | n => n, fun | 9 => 9 | 3 => 3 | 4 => 4 | 37 => 225 | 0 => 0 | 127 => 277 | 5 => 5 | n => n, fun | n => n⟩
theorem Tryz.laysM316 : Go.Proofs.LaysM.n316 Tryz.prog Tryz.laysM316_ren := {
  mixed := by kernel_rfl
  f316 := Tryz.func211.trans (congrArg some (by kernel_rfl))
  t0 := Tryz.underlying0
  a0 := Tryz.isAgg0
  z0 := Tryz.sizeOf0
  v0 := Tryz.zeroValue0
  t3 := Tryz.underlying3
  a3 := Tryz.isAgg3
  z3 := Tryz.sizeOf3
  v3 := Tryz.zeroValue3
  t4 := Tryz.underlying4
  a4 := Tryz.isAgg4
  z4 := Tryz.sizeOf4
  v4 := Tryz.zeroValue4
  t9 := Tryz.underlying9
  a9 := Tryz.isAgg9
  z9 := Tryz.sizeOf9
  v9 := Tryz.zeroValue9
  t37 := Tryz.underlying225
  a37 := Tryz.isAgg225
  z37 := Tryz.sizeOf225
  v37 := Tryz.zeroValue225
  t127 := Tryz.underlying277
  a127 := Tryz.isAgg277
  z127 := Tryz.sizeOf277
  v127 := Tryz.zeroValue277
  t5 := Tryz.underlying5
  a5 := Tryz.isAgg5
  z5 := Tryz.sizeOf5
  v5 := Tryz.zeroValue5
  i0 := by kernel_rfl
  i3 := by kernel_rfl
  i4 := by kernel_rfl
  i5 := by kernel_rfl
  i9 := by kernel_rfl
  i37 := by kernel_rfl
  i127 := by kernel_rfl }
def Tryz.laysNm226_ren : Go.Shelf.Ren := ⟨fun | 26 => 172 | 33 => 213 | 34 => 214 | 38 => 232 | n => n, fun | 24 => 26 | 9 => 9 | 3 => 3 | 4 => 4 | 40 => 307 | 0 => 0 | n => n, fun | n => n⟩
theorem Tryz.laysNm226 : Go.Proofs.Lays2.n26 Tryz.prog Tryz.laysNm226_ren := {
  mixed := by kernel_rfl
  f26 := Tryz.func172.trans (congrArg some (by kernel_rfl))
  f33 := Tryz.func213.trans (congrArg some (by kernel_rfl))
  f34 := Tryz.func214.trans (congrArg some (by kernel_rfl))
  f38 := Tryz.func232.trans (congrArg some (by kernel_rfl))
  t0 := Tryz.underlying0
  a0 := Tryz.isAgg0
  z0 := Tryz.sizeOf0
  v0 := Tryz.zeroValue0
  t3 := Tryz.underlying3
  a3 := Tryz.isAgg3
  z3 := Tryz.sizeOf3
  v3 := Tryz.zeroValue3
  t4 := Tryz.underlying4
  a4 := Tryz.isAgg4
  z4 := Tryz.sizeOf4
  v4 := Tryz.zeroValue4
  t9 := Tryz.underlying9
  a9 := Tryz.isAgg9
  z9 := Tryz.sizeOf9
  v9 := Tryz.zeroValue9
  t24 := Tryz.underlying26
  a24 := Tryz.isAgg26
  z24 := Tryz.sizeOf26
  v24 := Tryz.zeroValue26
  t40 := Tryz.underlying307
  a40 := Tryz.isAgg307
  z40 := Tryz.sizeOf307
  v40 := Tryz.zeroValue307 }
def Tryz.laysNm222_ren : Go.Shelf.Ren := ⟨fun | 22 => 216 | 29 => 233 | 30 => 234 | 36 => 246 | 17 => 252 | n => n, fun | 24 => 26 | 9 => 9 | 3 => 3 | 4 => 4 | 0 => 0 | n => n, fun | n => n⟩
theorem Tryz.laysNm222 : Go.Proofs.Lays2.n22 Tryz.prog Tryz.laysNm222_ren := {
  mixed := by kernel_rfl
  f17 := Tryz.func252.trans (congrArg some (by kernel_rfl))
  f22 := Tryz.func216.trans (congrArg some (by kernel_rfl))
  f29 := Tryz.func233.trans (congrArg some (by kernel_rfl))
  f30 := Tryz.func234.trans (congrArg some (by kernel_rfl))
  f36 := Tryz.func246.trans (congrArg some (by kernel_rfl))
  t0 := Tryz.underlying0
  a0 := Tryz.isAgg0
  z0 := Tryz.sizeOf0
  v0 := Tryz.zeroValue0
  t3 := Tryz.underlying3
  a3 := Tryz.isAgg3
  z3 := Tryz.sizeOf3
  v3 := Tryz.zeroValue3
  t4 := Tryz.underlying4
  a4 := Tryz.isAgg4
  z4 := Tryz.sizeOf4
  v4 := Tryz.zeroValue4
  t9 := Tryz.underlying9
  a9 := Tryz.isAgg9
  z9 := Tryz.sizeOf9
  v9 := Tryz.zeroValue9
  t24 := Tryz.underlying26
  a24 := Tryz.isAgg26
  z24 := Tryz.sizeOf26
  v24 := Tryz.zeroValue26
  i9 := by kernel_rfl }
def Tryz.laysNm224_ren : Go.Shelf.Ren := ⟨fun | 24 => 235 | n => n, fun | 24 => 26 | 9 => 9 | 3 => 3 | 4 => 4 | 0 => 0 | n => n, fun | n => n⟩
theorem Tryz.laysNm224 : Go.Proofs.Lays2.n24 Tryz.prog Tryz.laysNm224_ren := {
  mixed := by kernel_rfl
  f24 := Tryz.func235.trans (congrArg some (by kernel_rfl))
  t0 := Tryz.underlying0
  a0 := Tryz.isAgg0
  z0 := Tryz.sizeOf0
  v0 := Tryz.zeroValue0
  t3 := Tryz.underlying3
  a3 := Tryz.isAgg3
  z3 := Tryz.sizeOf3
  v3 := Tryz.zeroValue3
  t4 := Tryz.underlying4
  a4 := Tryz.isAgg4
  z4 := Tryz.sizeOf4
  v4 := Tryz.zeroValue4
  t9 := Tryz.underlying9
  a9 := Tryz.isAgg9
  z9 := Tryz.sizeOf9
  v9 := Tryz.zeroValue9
  t24 := Tryz.underlying26
  a24 := Tryz.isAgg26
  z24 := Tryz.sizeOf26
  v24 := Tryz.zeroValue26
  i9 := by kernel_rfl }
def Tryz.keys115_ren : Go.Shelf.Ren := ⟨fun | 7 => 115 | 10 => 179 | n => n, fun | 23 => 128 | 26 => 9 | 3 => 34 | 28 => 191 | 0 => 0 | 27 => 190 | 33 => 39 | 4 => 4 | n => n, fun | n => n⟩
theorem Tryz.keys115 : Go.Proofs.SlLaysZ.n7 Tryz.prog Tryz.keys115_ren := {
  mixed := by kernel_rfl
  f7 := ⟨Tryz.f115.name, by decide, Tryz.func115.trans (congrArg some (by kernel_rfl))⟩
  f10 := ⟨Tryz.f179.name, by decide, Tryz.func179.trans (congrArg some (by kernel_rfl))⟩
  t0 := Tryz.underlying0
  a0 := Tryz.isAgg0
  z0 := Tryz.sizeOf0
  v0 := Tryz.zeroValue0
  t4 := Tryz.underlying4
  a4 := Tryz.isAgg4
  z4 := Tryz.sizeOf4
  v4 := Tryz.zeroValue4
  t23 := Tryz.underlying128
  a23 := Tryz.isAgg128
  z23 := Tryz.sizeOf128
  v23 := Tryz.zeroValue128
  t26 := Tryz.underlying9
  a26 := Tryz.isAgg9
  z26 := Tryz.sizeOf9
  v26 := Tryz.zeroValue9
  t27 := Tryz.underlying190
  a27 := Tryz.isAgg190
  z27 := Tryz.sizeOf190
  v27 := Tryz.zeroValue190
  t28 := Tryz.underlying191
  a28 := Tryz.isAgg191
  z28 := Tryz.sizeOf191
  v28 := Tryz.zeroValue191
  t33 := Tryz.underlying39
  a33 := Tryz.isAgg39
  z33 := Tryz.sizeOf39
  v33 := Tryz.zeroValue39 }
def Tryz.sorted114_ren : Go.Shelf.Ren := ⟨fun | 6 => 114 | 8 => 177 | 9 => 178 | 11 => 218 | 13 => 220 | 12 => 219 | 23 => 244 | 24 => 245 | 14 => 236 | 15 => 237 | 16 => 238 | 17 => 239 | 18 => 240 | 19 => 241 | 20 => 213 | 21 => 242 | 22 => 243 | 25 => 247 | 26 => 248 | 27 => 249 | 28 => 250 | 29 => 251 | 30 => 232 | 31 => 253 | n => n, fun | 26 => 9 | 28 => 191 | 24 => 26 | 0 => 0 | 3 => 3 | 37 => 307 | 48 => 137 | 50 => 339 | 4 => 4 | 40 => 332 | 39 => 331 | 45 => 254 | 5 => 5 | 9 => 9 | 51 => 340 | 55 => 133 | 57 => 345 | 58 => 148 | 33 => 39 | n => n, fun | n => n⟩
theorem Tryz.sorted114 : Go.Proofs.SlLaysZ.n6 Tryz.prog Tryz.sorted114_ren := {
  mixed := by kernel_rfl
  f6 := ⟨Tryz.f114.name, by decide, Tryz.func114.trans (congrArg some (by kernel_rfl))⟩
  f8 := ⟨Tryz.f177.name, by decide, Tryz.func177.trans (congrArg some (by kernel_rfl))⟩
  f11 := ⟨Tryz.f218.name, by decide, Tryz.func218.trans (congrArg some (by kernel_rfl))⟩
  t0 := Tryz.underlying0
  a0 := Tryz.isAgg0
  z0 := Tryz.sizeOf0
  v0 := Tryz.zeroValue0
  t24 := Tryz.underlying26
  a24 := Tryz.isAgg26
  z24 := Tryz.sizeOf26
  v24 := Tryz.zeroValue26
  t26 := Tryz.underlying9
  a26 := Tryz.isAgg9
  z26 := Tryz.sizeOf9
  v26 := Tryz.zeroValue9
  t28 := Tryz.underlying191
  a28 := Tryz.isAgg191
  z28 := Tryz.sizeOf191
  v28 := Tryz.zeroValue191
  i26 := by kernel_rfl }
def Tryz.sort178_ren : Go.Shelf.Ren := ⟨fun | 6 => 178 | 8 => 220 | 9 => 219 | 19 => 244 | 20 => 245 | 21 => 236 | 22 => 237 | 23 => 238 | 24 => 239 | 25 => 240 | 26 => 241 | 27 => 213 | 28 => 242 | 29 => 243 | 36 => 247 | 31 => 248 | 32 => 249 | 37 => 250 | 38 => 251 | 39 => 232 | 41 => 253 | n => n, fun | 27 => 26 | 29 => 9 | 3 => 3 | 32 => 307 | 26 => 26 | 0 => 0 | 44 => 137 | 46 => 339 | 4 => 4 | 36 => 332 | 35 => 331 | 41 => 254 | 5 => 5 | 9 => 9 | 53 => 340 | 57 => 133 | 63 => 345 | 64 => 148 | n => n, fun | n => n⟩
theorem Tryz.sort178 : Go.Proofs.SlLaysM.n6 Tryz.prog Tryz.sort178_ren := {
  mixed := by kernel_rfl
  f6 := ⟨Tryz.f178.name, by decide, Tryz.func178.trans (congrArg some (by kernel_rfl))⟩
  f8 := Tryz.func220.trans (congrArg some (by kernel_rfl))
  f9 := ⟨Tryz.f219.name, by decide, Tryz.func219.trans (congrArg some (by kernel_rfl))⟩
  f19 := Tryz.func244.trans (congrArg some (by kernel_rfl))
  f20 := Tryz.func245.trans (congrArg some (by kernel_rfl))
  f21 := ⟨Tryz.f236.name, by decide, Tryz.func236.trans (congrArg some (by kernel_rfl))⟩
  f22 := ⟨Tryz.f237.name, by decide, Tryz.func237.trans (congrArg some (by kernel_rfl))⟩
  f23 := ⟨Tryz.f238.name, by decide, Tryz.func238.trans (congrArg some (by kernel_rfl))⟩
  f24 := ⟨Tryz.f239.name, by decide, Tryz.func239.trans (congrArg some (by kernel_rfl))⟩
  f25 := ⟨Tryz.f240.name, by decide, Tryz.func240.trans (congrArg some (by kernel_rfl))⟩
  f26 := ⟨Tryz.f241.name, by decide, Tryz.func241.trans (congrArg some (by kernel_rfl))⟩
  f27 := ⟨Tryz.f213.name, by decide, Tryz.func213.trans (congrArg some (by kernel_rfl))⟩
  f28 := ⟨Tryz.f242.name, by decide, Tryz.func242.trans (congrArg some (by kernel_rfl))⟩
  f29 := ⟨Tryz.f243.name, by decide, Tryz.func243.trans (congrArg some (by kernel_rfl))⟩
  f31 := Tryz.func248.trans (congrArg some (by kernel_rfl))
  f32 := Tryz.func249.trans (congrArg some (by kernel_rfl))
  f36 := ⟨Tryz.f247.name, by decide, Tryz.func247.trans (congrArg some (by kernel_rfl))⟩
  f37 := ⟨Tryz.f250.name, by decide, Tryz.func250.trans (congrArg some (by kernel_rfl))⟩
  f38 := ⟨Tryz.f251.name, by decide, Tryz.func251.trans (congrArg some (by kernel_rfl))⟩
  f39 := ⟨Tryz.f232.name, by decide, Tryz.func232.trans (congrArg some (by kernel_rfl))⟩
  f41 := ⟨Tryz.f253.name, by decide, Tryz.func253.trans (congrArg some (by kernel_rfl))⟩
  t0 := Tryz.underlying0
  a0 := Tryz.isAgg0
  z0 := Tryz.sizeOf0
  v0 := Tryz.zeroValue0
  t3 := Tryz.underlying3
  a3 := Tryz.isAgg3
  z3 := Tryz.sizeOf3
  v3 := Tryz.zeroValue3
  t4 := Tryz.underlying4
  a4 := Tryz.isAgg4
  z4 := Tryz.sizeOf4
  v4 := Tryz.zeroValue4
  t5 := Tryz.underlying5
  a5 := Tryz.isAgg5
  z5 := Tryz.sizeOf5
  v5 := Tryz.zeroValue5
  t9 := Tryz.underlying9
  a9 := Tryz.isAgg9
  z9 := Tryz.sizeOf9
  v9 := Tryz.zeroValue9
  t26 := Tryz.underlying26
  a26 := Tryz.isAgg26
  z26 := Tryz.sizeOf26
  v26 := Tryz.zeroValue26
  t27 := Tryz.underlying26
  a27 := Tryz.isAgg26
  z27 := Tryz.sizeOf26
  v27 := Tryz.zeroValue26
  t29 := Tryz.underlying9
  a29 := Tryz.isAgg9
  z29 := Tryz.sizeOf9
  v29 := Tryz.zeroValue9
  t32 := Tryz.underlying307
  a32 := Tryz.isAgg307
  z32 := Tryz.sizeOf307
  v32 := Tryz.zeroValue307
  t35 := Tryz.underlying331
  a35 := Tryz.isAgg331
  z35 := Tryz.sizeOf331
  v35 := Tryz.zeroValue331
  t36 := Tryz.underlying332
  a36 := Tryz.isAgg332
  z36 := Tryz.sizeOf332
  v36 := Tryz.zeroValue332
  t41 := Tryz.underlying254
  a41 := Tryz.isAgg254
  z41 := Tryz.sizeOf254
  v41 := Tryz.zeroValue254
  t44 := Tryz.underlying137
  a44 := Tryz.isAgg137
  z44 := Tryz.sizeOf137
  v44 := Tryz.zeroValue137
  t46 := Tryz.underlying339
  a46 := Tryz.isAgg339
  z46 := Tryz.sizeOf339
  v46 := Tryz.zeroValue339
  t53 := Tryz.underlying340
  a53 := Tryz.isAgg340
  z53 := Tryz.sizeOf340
  v53 := Tryz.zeroValue340
  t57 := Tryz.underlying133
  a57 := Tryz.isAgg133
  z57 := Tryz.sizeOf133
  v57 := Tryz.zeroValue133
  t63 := Tryz.underlying345
  a63 := Tryz.isAgg345
  z63 := Tryz.sizeOf345
  v63 := Tryz.zeroValue345
  t64 := Tryz.underlying148
  a64 := Tryz.isAgg148
  z64 := Tryz.sizeOf148
  v64 := Tryz.zeroValue148 }
def Tryz.keys173_ren : Go.Shelf.Ren := ⟨fun | 7 => 173 | 10 => 215 | n => n, fun | 23 => 174 | 26 => 9 | 3 => 179 | 28 => 191 | 0 => 0 | 27 => 190 | 33 => 39 | 4 => 4 | n => n, fun | n => n⟩
theorem Tryz.keys173 : Go.Proofs.SlLaysZ.n7 Tryz.prog Tryz.keys173_ren := {
  mixed := by kernel_rfl
  f7 := ⟨Tryz.f173.name, by decide, Tryz.func173.trans (congrArg some (by kernel_rfl))⟩
  f10 := ⟨Tryz.f215.name, by decide, Tryz.func215.trans (congrArg some (by kernel_rfl))⟩
  t0 := Tryz.underlying0
  a0 := Tryz.isAgg0
  z0 := Tryz.sizeOf0
  v0 := Tryz.zeroValue0
  t4 := Tryz.underlying4
  a4 := Tryz.isAgg4
  z4 := Tryz.sizeOf4
  v4 := Tryz.zeroValue4
  t23 := Tryz.underlying174
  a23 := Tryz.isAgg174
  z23 := Tryz.sizeOf174
  v23 := Tryz.zeroValue174
  t26 := Tryz.underlying9
  a26 := Tryz.isAgg9
  z26 := Tryz.sizeOf9
  v26 := Tryz.zeroValue9
  t27 := Tryz.underlying190
  a27 := Tryz.isAgg190
  z27 := Tryz.sizeOf190
  v27 := Tryz.zeroValue190
  t28 := Tryz.underlying191
  a28 := Tryz.isAgg191
  z28 := Tryz.sizeOf191
  v28 := Tryz.zeroValue191
  t33 := Tryz.underlying39
  a33 := Tryz.isAgg39
  z33 := Tryz.sizeOf39
  v33 := Tryz.zeroValue39 }
end Go.Proofs

/- The library's contracts that the program's walks lean on, laid at this dump. -/
namespace Go.Proofs
open Go.Shelf
namespace YtfcocbcihhdbkaaGreatDoor
open Go.RowKit
theorem slClone_any (s : ByteArray) (w : World) (hlim : s.size ≤ 281474976710656) :
    Calls Tryz.prog 211 #[.string s] w fun e w' => e = .returned (.string s) ∧ Below w.heap.size w w' := Any.stringslite_Clone Tryz.laysM316 s w hlim

theorem slSearch_any (b off n c : Nat) (Sx : Nat → ByteArray) (x : ByteArray) (w : World) (hbig : n < 4611686018427387904) (hc : ∀ j, j < n → w.cell? ⟨b, off + j, none⟩ = some (.string (Sx j))) :
    Calls Tryz.prog 172 #[.slice (some ⟨b, off, none⟩) n c, .string x] w fun e w' =>
      e = .returned (.tuple #[.int .i64 (Lib.bsGo (fun t => Op.bytesLess (Sx t).toList x.toList) n 0 n : Nat), .bool (decide (Lib.bsGo (fun t => Op.bytesLess (Sx t).toList x.toList) n 0 n < n ∧ Sx (Lib.bsGo (fun t => Op.bytesLess (Sx t).toList x.toList) n 0 n) = x))]) ∧ ∃ q, w' = w.drewN q :=
  Any2.slices_BinarySearch_string Tryz.laysNm226 b off n c Sx x w hbig hc

theorem slSearch_empty (a : Option Addr) (c : Nat) (x : ByteArray) (w : World) :
    Calls Tryz.prog 172 #[.slice a 0 c, .string x] w fun e w' => e = .returned (.tuple #[.int .i64 0, .bool false]) ∧ w' = w :=
  Any2.slices_BinarySearch_string_empty Tryz.laysNm226 a c x w

theorem slInsert_shift (b off n c i vb voff m vc : Nat) (cs vs : List Value) (w : World) (hi : i < n) (hm : 0 < m) (hroom : n + m ≤ c) (hc63 : c ≤ 9223372036854775807) (hvb : vb ≠ b)
    (hcl : cs.length = n) (hvl : vs.length = m)
    (hcs : ∀ j v, cs[j]? = some v → w.cell? ⟨b, off + j, none⟩ = some v) (hsp : ∀ j, j < n + m → (w.cell? ⟨b, off + j, none⟩).isSome = true) (hfz : ∀ j, j < n + m → w.frozen? ⟨b, off + j, none⟩ = false)
    (hvs : ∀ j v, vs[j]? = some v → w.cell? ⟨vb, voff + j, none⟩ = some v) (h1c : ∀ v ∈ cs, v.oneCell' = true) (h1v : ∀ v ∈ vs, v.oneCell' = true)
    (tA tB : TypeId) (kA kB : Nat) (hsa : w.shape? vb = some (tA, kA)) (hsb : w.shape? b = some (tB, kB)) (hkB : kB ≠ 0) (hfa : w.frozen? ⟨vb, voff, none⟩ = false) (hfe : w.frozen? ⟨vb, kA, none⟩ = false) :
    Calls Tryz.prog 216 #[.slice (some ⟨b, off, none⟩) n c, .int .i64 i, .slice (some ⟨vb, voff, none⟩) m vc] w fun e w' =>
      e = .returned (.slice (some ⟨b, off, none⟩) (n + m) c) ∧ w' = (w.drew.setCells b (off + (i + m)) (cs.drop i)).setCells b (off + i) vs :=
  Any2.slices_Insert_string_shift Tryz.laysNm222 b off n c i vb voff m vc cs vs w hi hm hroom hc63 hvb hcl hvl hcs hsp hfz hvs h1c h1v tA tB kA kB hsa hsb hkB hfa hfe

theorem slInsert_end_room (b off n c vb voff m vc : Nat) (vs : List Value) (w : World) (hm : 0 < m) (hroom : n + m ≤ c) (hc63 : c ≤ 9223372036854775807)
    (hvl : vs.length = m) (hsp : ∀ j, j < m → (w.cell? ⟨b, off + n + j, none⟩).isSome = true) (hfz : ∀ j, j < m → w.frozen? ⟨b, off + n + j, none⟩ = false)
    (hvs : ∀ j v, vs[j]? = some v → w.cell? ⟨vb, voff + j, none⟩ = some v) (h1v : ∀ v ∈ vs, v.oneCell' = true) :
    Calls Tryz.prog 216 #[.slice (some ⟨b, off, none⟩) n c, .int .i64 n, .slice (some ⟨vb, voff, none⟩) m vc] w fun e w' =>
      e = .returned (.slice (some ⟨b, off, none⟩) (n + m) c) ∧ w' = w.setCells b (off + n) vs :=
  Any2.slices_Insert_string_end_room Tryz.laysNm222 b off n c vb voff m vc vs w hm hroom hc63 hvl hsp hfz hvs h1v

theorem slInsert_end_grow (base : Option Addr) (n c vb voff m vc : Nat) (cs vs : List Value) (w : World) (hm : 0 < m) (hnc : n ≤ c) (hroom : c < n + m) (hbig : (n + m) * 16 ≤ 140737488355328)
    (hcl : cs.length = n) (hvl : vs.length = m) (hnil : base = none → n = 0)
    (hcs : ∀ a, base = some a → ∀ j v, cs[j]? = some v → w.cell? (a.add j) = some v)
    (hvs : ∀ j v, vs[j]? = some v → w.cell? ⟨vb, voff + j, none⟩ = some v) (h1v : ∀ v ∈ vs, v.oneCell' = true) :
    Calls Tryz.prog 216 #[.slice base n c, .int .i64 n, .slice (some ⟨vb, voff, none⟩) m vc] w fun e w' =>
      e = .returned (.slice (some ⟨w.heap.size, 0, none⟩) (n + m) (grownCap w (n + m) c 9)) ∧
      w' = w.drew.alloc (.cells ((cs ++ vs).toArray ++ Builtin.zeroCells (Value.string ⟨#[]⟩).cells (grownCap w (n + m) c 9 - (n + m))) 9) :=
  Any2.slices_Insert_string_end_grow Tryz.laysNm222 base n c vb voff m vc cs vs w hm hnc hroom hbig hcl hvl hnil hcs hvs h1v

theorem slInsert_grow (b off n c i vb voff m vc : Nat) (cs vs : List Value) (w : World) (hi : i < n) (hm : 0 < m) (hnc : n ≤ c) (hroom : c < n + m) (hbig : (n + m) * 16 ≤ 140737488355328)
    (hcl : cs.length = n) (hvl : vs.length = m)
    (hcs : ∀ j v, cs[j]? = some v → w.cell? ⟨b, off + j, none⟩ = some v)
    (hvs : ∀ j v, vs[j]? = some v → w.cell? ⟨vb, voff + j, none⟩ = some v) (h1c : ∀ v ∈ cs, v.oneCell' = true) (h1v : ∀ v ∈ vs, v.oneCell' = true) :
    Calls Tryz.prog 216 #[.slice (some ⟨b, off, none⟩) n c, .int .i64 i, .slice (some ⟨vb, voff, none⟩) m vc] w fun e w' =>
      e = .returned (.slice (some ⟨w.heap.size, 0, none⟩) (n + m) (grownCap w (n + m) c 9)) ∧
      w' = (((w.alloc (.cells ((cs.take i).toArray ++ Builtin.zeroCells (Value.string ⟨#[]⟩).cells (n + m - i) ++ Builtin.zeroCells (Value.string ⟨#[]⟩).cells (grownCap w (n + m) c 9 - (n + m))) 9)).drew.setCells w.heap.size i vs).drew).setCells w.heap.size (i + m) (cs.drop i) :=
  Any2.slices_Insert_string_grow Tryz.laysNm222 b off n c i vb voff m vc cs vs w hi hm hnc hroom hbig hcl hvl hcs hvs h1c h1v
end YtfcocbcihhdbkaaGreatDoor
end Go.Proofs

/- Put and Delete. -/
namespace Go.Proofs.YtfcocbcihhdbkaaGreatDoor
open Go.RowKit

set_option maxRecDepth 100000 in
set_option maxHeartbeats 400000 in
theorem clone_any (s : ByteArray) (w : World) (hlim : s.size ≤ 281474976710656) :
    Calls Tryz.prog 163 #[.string s] w fun e w' => e = .returned (.string s) ∧ Keeps (fun _ => False) w w' := by
  go_enter Tryz.func163, Tryz.ntmps163
  go_wp2_with (go_at_call 211; go_must (refine (slClone_any s _ hlim).mono ?_; rintro e w1 ⟨rfl, hk1⟩))
  go_ret
  exact ⟨rfl, Keeps.below hk1⟩

theorem chg_new3 (w : World) (o1 o2 : Obj) : Chg (((w.alloc o1).alloc o2).alloc (.cells #[.slice none 0 0] 115)) (w.heap.size + 1 + 1) [] [w.heap.size + 1 + 1] := by
  have := chg_new (w.alloc o1) o2
  simpa using this

set_option maxRecDepth 100000 in
set_option maxHeartbeats 400000 in
theorem write_none (R : Rep) (n : Int) (key val : ByteArray) (gone : Bool) (w : World) (h : StoreAt w R) (hn : look R.works n = none) :
    Calls Tryz.prog 95 #[.pointer (some ⟨R.sb, 0, none⟩), .int .i64 n, .string key, .agg #[.int .i64 0, .string val, .bool gone]] w fun e w' => e = .returned (.int .i64 1) ∧ Keeps (fun _ => False) w w' := by
  have hmf : ∀ (fn : Fn) (first cap : Array Value) (w : World), (Instr.makeFunc fn first cap).run Tryz.prog w = .ok (.func fn first cap) w := fun _ _ _ _ => rfl
  have hf := find_any R n (((w.alloc (.cells #[.int .i64 0, .string val, .bool gone] 179)).alloc (.cells #[.int .i64 0] 53)).alloc (.cells #[.slice none 0 0] 115)) (h.kept ((((Keeps.refl (fun _ => False) w).al _).al _).al _) (fun _ _ h => h))
  rw [hn] at hf
  simp only [Option.map_none, Option.getD_none] at hf
  clear hn h
  generalize R.sb = sb at *
  go_enter_defers Tryz.func95, Tryz.ntmps95
  go_wp2_with (go_at_call 97; go_must (refine hf.mono ?_; rintro e w1 ⟨rfl, rfl⟩))
  refine leaves_cons (f := 161) (args := #[.pointer (some ⟨w.heap.size + 1 + 1, 0, none⟩), .pointer (some ⟨w.heap.size + 1, 0, none⟩)]) (by simp) (by simp [go_sem]) ?_
  refine (write1_none (w.heap.size + 1 + 1) (w.heap.size + 1) 1 (by omega) _ ?_ ?_).mono ?_
  · simp [go_sem]
  · simp [go_sem]
  rintro e u' w'' ⟨rfl, rfl, hk⟩
  have hb : w''.cell? ⟨w.heap.size + 1, 0, none⟩ = some (.int .i64 1) := hk.cell (p := ⟨w.heap.size + 1, 0, none⟩) (by simp [go_sem]) (fun h => h)
  simp [Leaves, settle, results, Tryz.results95, go_sem, hb]
  exact ((((Keeps.refl _ w).al _).al _).al _).tr hk (fun _ h => h)

set_option maxRecDepth 100000 in
set_option maxHeartbeats 400000 in
theorem write_text (R : Rep) (n : Int) (x : WkR) (key val : ByteArray) (gone : Bool) (w : World) (h : StoreAt w R) (hn : look R.works n = some x) (hk : key.size ≤ maxLen) (hv : val.size ≤ maxLen) (hb : keyB key = false ∨ valB val = false) :
    Calls Tryz.prog 95 #[.pointer (some ⟨R.sb, 0, none⟩), .int .i64 n, .string key, .agg #[.int .i64 0, .string val, .bool gone]] w fun e w' => e = .returned (.int .i64 2) ∧ Keeps (fun _ => False) w w' := by
  have hmf : ∀ (fn : Fn) (first cap : Array Value) (w : World), (Instr.makeFunc fn first cap).run Tryz.prog w = .ok (.func fn first cap) w := fun _ _ _ _ => rfl
  have hnot : ∀ (x : Bool) (w : World), (Op.unary .not (.bool x)).run Tryz.prog w = .ok (.bool (!x)) w := fun _ _ => rfl
  have hf := find_any R n (((w.alloc (.cells #[.int .i64 0, .string val, .bool gone] 179)).alloc (.cells #[.int .i64 0] 53)).alloc (.cells #[.slice none 0 0] 115)) (h.kept ((((Keeps.refl (fun _ => False) w).al _).al _).al _) (fun _ _ h => h))
  rw [hn] at hf
  simp only [Option.map_some, Option.getD_some, workPtr] at hf
  have hik := fun W => isKey_any key W hk
  have hiv := fun W => isValue_any val W hv
  clear hn h hk hv
  generalize R.sb = sb at *
  cases hkb : keyB key with
  | false =>
    simp only [hkb] at hik
    clear hkb hb hiv
    have HIK : Hid (∀ W, Calls Tryz.prog 100 #[.string key] W fun e w' => e = .returned (.bool false) ∧ w' = W) := hik
    clear hik
    go_enter_defers Tryz.func95, Tryz.ntmps95
    go_wp2_with (first
      | (go_at_call 97; go_must (refine hf.mono ?_; rintro e w1 ⟨rfl, rfl⟩))
      | (go_at_call 100; go_must (refine (HIK.out _).mono ?_; rintro e w1 ⟨rfl, rfl⟩)))
    refine leaves_cons (f := 161) (args := #[.pointer (some ⟨w.heap.size + 1 + 1, 0, none⟩), .pointer (some ⟨w.heap.size + 1, 0, none⟩)]) (by simp) (by simp [go_sem]) ?_
    refine (write1_none (w.heap.size + 1 + 1) (w.heap.size + 1) 2 (by omega) _ ?_ ?_).mono ?_
    · simp [go_sem]
    · simp [go_sem]
    rintro e u' w'' ⟨rfl, rfl, hk⟩
    have hb : w''.cell? ⟨w.heap.size + 1, 0, none⟩ = some (.int .i64 2) := hk.cell (p := ⟨w.heap.size + 1, 0, none⟩) (by simp [go_sem]) (fun h => h)
    simp [Leaves, settle, results, Tryz.results95, go_sem, hb]
    exact ((((Keeps.refl _ w).al _).al _).al _).tr hk (fun _ h => h)
  | true =>
    have hvb : valB val = false := by
      rcases hb with h | h
      · rw [hkb] at h; cases h
      · exact h
    simp only [hkb] at hik
    simp only [hvb] at hiv
    clear hkb hb hvb
    have HIK : Hid (∀ W, Calls Tryz.prog 100 #[.string key] W fun e w' => e = .returned (.bool true) ∧ w' = W) := hik
    have HIV : Hid (∀ W, Calls Tryz.prog 162 #[.string val] W fun e w' => e = .returned (.bool false) ∧ w' = W) := hiv
    clear hik hiv
    go_enter_defers Tryz.func95, Tryz.ntmps95
    go_wp2_with (first
      | (go_at_call 97; go_must (refine hf.mono ?_; rintro e w1 ⟨rfl, rfl⟩))
      | (go_at_call 100; go_must (refine (HIK.out _).mono ?_; rintro e w1 ⟨rfl, rfl⟩))
      | (go_at_call 162; go_must (refine (HIV.out _).mono ?_; rintro e w1 ⟨rfl, rfl⟩)))
    refine leaves_cons (f := 161) (args := #[.pointer (some ⟨w.heap.size + 1 + 1, 0, none⟩), .pointer (some ⟨w.heap.size + 1, 0, none⟩)]) (by simp) (by simp [go_sem]) ?_
    refine (write1_none (w.heap.size + 1 + 1) (w.heap.size + 1) 2 (by omega) _ ?_ ?_).mono ?_
    · simp [go_sem]
    · simp [go_sem]
    rintro e u' w'' ⟨rfl, rfl, hk⟩
    have hb : w''.cell? ⟨w.heap.size + 1, 0, none⟩ = some (.int .i64 2) := hk.cell (p := ⟨w.heap.size + 1, 0, none⟩) (by simp [go_sem]) (fun h => h)
    simp [Leaves, settle, results, Tryz.results95, go_sem, hb]
    exact ((((Keeps.refl _ w).al _).al _).al _).tr hk (fun _ h => h)

end Go.Proofs.YtfcocbcihhdbkaaGreatDoor
