import Derived.Test.YtpagenipflmlfaaGreatDoorM03
import Derived.WalkKit
import Derived.Laws.BitsLemmas
import Derived.Shelf.LaysM
import Derived.Shelf.SlGeneric
import Derived.Shelf.Strconv.Clone
import Derived.Shelf.Spec.SearchS
import Derived.Shelf.Spec.SlicesInsert
import Derived.Shelf.Spec.SlicesInsertGrow
import Derived.Shelf.Slices.Delete
import Derived.Shelf.Slices.Cells
import Derived.Shelf.SlIter.Nil
import Derived.Shelf.SortM.Plain
import Derived.Shelf.SortM.SortNone
import Derived.Ground.Names2Prog
import Derived.Ground.GgzProg
import Derived.Ground.SlgmProg
import Derived.Test.YtpagenipflmlfaaGreatDoorProg

/- Abort. -/

namespace Go.Proofs.YtpagenipflmlfaaGreatDoor

open Go.RowKit

theorem del_sublist {α β : Type} [DecidableEq α] (l : List (α × β)) (k : α) : (del l k).Sublist l := by
  induction l with
  | nil => exact List.Sublist.refl _
  | cons p r ih =>
    obtain ⟨a, x⟩ := p
    unfold del
    split
    · exact List.sublist_cons_self _ _
    · exact List.Sublist.cons_cons _ ih

theorem flatMap_sublist {α β : Type} (f : α → List β) {l l' : List α} (h : l.Sublist l') : (l.flatMap f).Sublist (l'.flatMap f) := by
  induction h with
  | slnil => exact List.Sublist.refl _
  | cons a _ ih => simp only [List.flatMap_cons]; exact ih.trans (List.sublist_append_right _ _)
  | cons_cons a _ ih => simp only [List.flatMap_cons]; exact List.Sublist.append (List.Sublist.refl _) ih

theorem fp_del {R : Rep} {n : Int} : (Rep.fp { R with works := del R.works n }).Sublist R.fp := by
  simp only [Rep.fp, Rep.fpWorks, Rep.fpPast]
  exact List.Sublist.cons_cons _ (List.Sublist.append (List.Sublist.append (List.Sublist.refl _) (flatMap_sublist _ (del_sublist _ _))) (List.Sublist.refl _))

/-- A work is over. -/
theorem StoreAt.removed {w w' : World} {R : Rep} {C : List Nat} {b0 : Nat} {n : Int} (h : StoreAt w R) (hwm : R.wm = some b0) (hC : ∀ k ∈ C, k ∉ R.fp) (hk : Keeps (fun k => k ∈ C ∨ k = b0) w w')
    (hm : MapAt (Value.int .i64) w' b0 (del (R.works.map fun p => (p.1, workPtr p.2)) n)) : StoreAt w' { R with works := del R.works n } := by
  have hnd := h.nodup
  have hfpW : R.fpWorks = b0 :: (pcOf R.pm R.cm ++ R.works.flatMap (fun p => [p.2.blk, p.2.mb])) := by simp [Rep.fpWorks, hwm]
  have hnb : ∀ k, k ∈ R.sb :: ((pcOf R.pm R.cm ++ R.works.flatMap (fun p => [p.2.blk, p.2.mb])) ++ R.fpPast) → ¬ (k ∈ C ∨ k = b0) := by
    intro k hk'
    rintro (hc | rfl)
    · refine hC k hc ?_
      simp only [Rep.fp, hfpW, List.mem_cons, List.mem_append] at hk' ⊢
      rcases hk' with h | h | h
      · exact .inl h
      · exact .inr (.inl (.inr h))
      · exact .inr (.inr h)
    · simp only [Rep.fp, hfpW, List.cons_append, List.nodup_cons, List.mem_cons, List.mem_append, not_or] at hnd
      simp only [List.mem_cons, List.mem_append] at hk'
      rcases hk' with h | h | h
      · exact hnd.1.1 h.symm
      · rcases h with h | h
        · exact hnd.2.1.1.1 h
        · exact hnd.2.1.1.2 h
      · exact hnd.2.1.2 h
  refine ⟨?_, ⟨?_, ?_, ?_, ?_⟩, ?_, ?_⟩
  · exact (hk.block R.sb h.lt (hnb _ (by simp))).trans h.top
  · show OptMap _ _ R.wm _
    rw [hwm]
    show MapAt _ _ _ _
    rw [← del_map]
    exact hm
  · intro p hp
    have hp' : p ∈ R.works := (del_sublist _ _).subset hp
    obtain ⟨h1, h2⟩ := h.works.worksEach p hp'
    have hm1 : p.2.blk ∈ R.works.flatMap (fun p => [p.2.blk, p.2.mb]) := List.mem_flatMap.2 ⟨p, hp', by simp⟩
    have hm2 : p.2.mb ∈ R.works.flatMap (fun p => [p.2.blk, p.2.mb]) := List.mem_flatMap.2 ⟨p, hp', by simp⟩
    exact ⟨(hk.block _ (Array.getElem?_eq_some_iff.1 h1).1 (hnb _ (by simp [hm1]))).trans h1, h2.kept hk (hnb _ (by simp [hm2]))⟩
  · exact h.works.pinsMap.kept hk (fun b hb => hnb _ (by simp [pcOf, hb]))
  · exact h.works.copyMap.kept hk (fun b hb => hnb _ (by simp [pcOf, hb]))
  · exact h.past.kept hk (fun k hk' => hnb _ (List.mem_cons_of_mem _ (List.mem_append_right _ hk')))
  · exact hnd.sublist fp_del

theorem wm_some {w : World} {R : Rep} (h : StoreAt w R) {n : Int} {x : WkR} (hn : look R.works n = some x) : ∃ b0, R.wm = some b0 := by
  cases hw : R.wm with
  | some b => exact ⟨b, rfl⟩
  | none =>
    have := h.works.worksMap
    rw [hw] at this
    have e : R.works = [] := List.map_eq_nil_iff.1 this
    rw [e] at hn
    cases hn

set_option maxRecDepth 100000 in
set_option maxHeartbeats 400000 in
theorem abort_none (R : Rep) (n : Int) (w : World) (h : StoreAt w R) (hn : look R.works n = none) :
    Calls Tryz.prog 31 #[.pointer (some ⟨R.sb, 0, none⟩), .int .i64 n] w fun e w' => e = .returned (.int .i64 1) ∧ Keeps (fun _ => False) w w' := by
  have hmf : ∀ (fn : Fn) (first cap : Array Value) (w : World), (Instr.makeFunc fn first cap).run Tryz.prog w = .ok (.func fn first cap) w := fun _ _ _ _ => rfl
  have hf := find_any R n ((w.alloc (.cells #[.int .i64 0] 34)).alloc (.cells #[.slice none 0 0] 69)) (h.kept (((Keeps.refl (fun _ => False) w).al _).al _) (fun _ _ h => h))
  rw [hn] at hf
  simp only [Option.map_none, Option.getD_none] at hf
  clear hn h
  generalize R.sb = sb at *
  go_enter_defers Tryz.func31, Tryz.ntmps31
  go_wp2_with (go_at_call 47; go_must (refine hf.mono ?_; rintro e w1 ⟨rfl, rfl⟩))
  refine leaves_cons (f := 59) (args := #[.pointer (some ⟨w.heap.size + 1, 0, none⟩), .pointer (some ⟨w.heap.size, 0, none⟩)]) (by simp) (by simp [go_sem]) ?_
  refine (abort1_none (w.heap.size + 1) w.heap.size 1 (by omega) _ ?_ ?_).mono ?_
  · simp [go_sem]
  · simp [go_sem]
  rintro e u' w'' ⟨rfl, rfl, hk⟩
  have hb : w''.cell? ⟨w.heap.size, 0, none⟩ = some (.int .i64 1) := hk.cell (p := ⟨w.heap.size, 0, none⟩) (by simp [go_sem]) (fun h => h)
  simp [Leaves, settle, results, Tryz.results31, go_sem, hb]
  exact (((Keeps.refl _ w).al _).al _).tr hk (fun _ h => h)

set_option maxRecDepth 100000 in
set_option maxHeartbeats 600000 in
theorem abort_some (R : Rep) (n : Int) (x : WkR) (w : World) (h : StoreAt w R) (hn : look R.works n = some x) :
    Calls Tryz.prog 31 #[.pointer (some ⟨R.sb, 0, none⟩), .int .i64 n] w fun e w' => e = .returned (.int .i64 0) ∧ StoreAt w' { R with works := del R.works n } ∧ Keeps (· ∈ R.fp) w w' := by
  obtain ⟨b0, hwm⟩ := wm_some h hn
  have hmf : ∀ (fn : Fn) (first cap : Array Value) (w : World), (Instr.makeFunc fn first cap).run Tryz.prog w = .ok (.func fn first cap) w := fun _ _ _ _ => rfl
  have hW := h.kept (((Keeps.refl (fun _ => False) w).al (.cells #[.int .i64 0] 34)).al (.cells #[.slice none 0 0] 69)) (fun _ _ h => h)
  have hf := find_any R n _ hW
  rw [hn] at hf
  simp only [Option.map_some, Option.getD_some, workPtr] at hf
  have hM : MapAt (Value.int .i64) ((w.alloc (.cells #[.int .i64 0] 34)).alloc (.cells #[.slice none 0 0] 69)) b0 (R.works.map fun p => (p.1, workPtr p.2)) := by have := hW.works.worksMap; rw [hwm] at this; exact this
  have c3 : w.cell? ⟨R.sb, 3, none⟩ = some (.map (some b0)) := (h.cell 3).trans (by rw [← hwm]; rfl)
  have hlt := h.lt
  have hbf : b0 ∈ R.fp := by simp [Rep.fp, Rep.fpWorks, hwm]
  have hbl := fp_lt h _ hbf
  have hrm := remove_work (w.heap.size + 1) [] [w.heap.size + 1] b0 n _ (some ⟨x.blk, 0, none⟩) _ (chg_new w _) hM (by rw [look_map, hn]; rfl) (by simp; omega) (by simp)
  have HST : Hid (StoreAt w R) := h
  have HWM : Hid (R.wm = some b0) := hwm
  clear hW hM hn h hwm
  go_enter_defers Tryz.func31, Tryz.ntmps31
  go_wp2_with (first
    | (go_at_call 47; go_must (refine hf.mono ?_; rintro e w1 ⟨rfl, rfl⟩))
    | (go_at_call 48; go_must (refine hrm.mono ?_; rintro e w1 ⟨rfl, fs1, C1, hf1, hC1, hk1, hC1', hm1⟩; have hE0 : w1.heap[w.heap.size]? = some (.cells #[.int .i64 0] 34 (0, 0)) := ((hk1.block w.heap.size (by simp; omega) (by rintro (hc | hc); (simp at hc); omega)).trans (Below.heap_alloc _ _ _ (by simp))).trans (heap_new w _); have y0 : w1.cell? ⟨w.heap.size, 0, none⟩ = some (.int .i64 0) := cell_of_heap hE0 0; have y1 : w1.frozen? ⟨w.heap.size, 0, none⟩ = false := frozen_of_heap hE0 0; have HE0 : Hid (w1.heap[w.heap.size]? = some (.cells #[.int .i64 0] 34 (0, 0))) := hE0; clear hE0)))
  refine leaves_cons (f := 59) (args := #[.pointer (some ⟨w.heap.size + 1, 0, none⟩), .pointer (some ⟨w.heap.size, 0, none⟩)]) (by simp) (by simp [go_sem]) ?_
  have hE1 := heap_setCell_same (i := 0) HE0.out (.int .i64 0)
  refine (abort1_ok (w.heap.size + 1) w.heap.size _ ?_).mono ?_
  · exact cell_of_heap hE1 0
  rintro e u' w'' ⟨rfl, rfl, rfl⟩
  have hpost : StoreAt (w1.setCell ⟨w.heap.size, 0, none⟩ (.int .i64 0)) { R with works := del R.works n } ∧ Keeps (· ∈ R.fp) w (w1.setCell ⟨w.heap.size, 0, none⟩ (.int .i64 0)) := by
    have s1 := (HST.out.kept (((Keeps.refl (fun _ => False) w).al _).al _) (fun _ _ h => h)).removed HWM.out (fun k hk hf => by have := fp_lt HST.out k hf; simp at hk; omega) hk1 hm1
    refine ⟨s1.kept (Keeps.setCell _ _ _) (fun k hk e => ?_), ?_⟩
    · have e' : k = w.heap.size := e
      have := fp_lt HST.out k (fp_del.subset hk)
      omega
    · refine ((((Keeps.refl (· ∈ R.fp) w).al _).al _).trans hk1 (fun k hk h => ?_)).st (.inl (Nat.le_refl _)) _
      rcases h with h | rfl
      · simp at h; omega
      · exact hbf
  have hb := cell_of_heap hE1 0
  generalize w1.setCell ⟨w.heap.size, 0, none⟩ (.int .i64 0) = W3 at hpost hb
  simp at hb
  simp [Leaves, settle, results, Tryz.results31, go_sem, hb]
  exact hpost

end Go.Proofs.YtpagenipflmlfaaGreatDoor

/- Numbers as they stand in a text, and the check: pure. -/

namespace Go.Proofs.YtpagenipflmlfaaGreatDoor

/-- a number's bytes -/
def numF : Nat → Nat → List UInt8
  | 0, n => [UInt8.ofNat n]
  | f + 1, n => if n < 128 then [UInt8.ofNat n] else UInt8.ofNat (n % 128 + 128) :: numF f (n / 128)

def numL (n : Nat) : List UInt8 := numF n n

theorem numF_same : ∀ (f g n : Nat), n ≤ f → n ≤ g → numF f n = numF g n
  | 0, 0, _, _, _ => rfl
  | 0, g + 1, n, hf, _ => by rw [numF, numF, if_pos (by omega)]
  | f + 1, 0, n, _, hg => by rw [numF, numF, if_pos (by omega)]
  | f + 1, g + 1, n, hf, hg => by
    rw [numF, numF]
    split
    · rfl
    · rw [numF_same f g (n / 128) (by omega) (by omega)]

theorem numL_small {n : Nat} (h : n < 128) : numL n = [UInt8.ofNat n] := by
  unfold numL
  cases n with
  | zero => rfl
  | succ m => rw [numF, if_pos h]

theorem numL_great {n : Nat} (h : ¬ n < 128) : numL n = UInt8.ofNat (n % 128 + 128) :: numL (n / 128) := by
  unfold numL
  cases n with
  | zero => omega
  | succ m => rw [numF, if_neg h, numF_same m ((m + 1) / 128) _ (by omega) (Nat.le_refl _)]

/-- reads a number: how many digits there may still be, the place of the next one, what has been read; gives the number and its length -/
def numFrom : Nat → Nat → Nat → List UInt8 → Option (Nat × Nat)
  | 0, _, _, _ => none
  | _ + 1, _, _, [] => none
  | f + 1, i, n, d :: r =>
    if d.toNat < 128 then (if d.toNat = 0 ∧ 0 < i then none else some (n + d.toNat * 128 ^ i, i + 1))
    else numFrom f (i + 1) (n + (d.toNat - 128) * 128 ^ i) r

def numAt (l : List UInt8) : Option (Nat × Nat) := numFrom 5 0 0 l

theorem toNat_ofNat {n : Nat} (h : n < 256) : (UInt8.ofNat n).toNat = n := by simp [Nat.mod_eq_of_lt h]

theorem numFrom_num : ∀ (f i n m : Nat) (r : List UInt8), m < 128 ^ f → (m ≠ 0 ∨ i = 0) → 0 < f → numFrom f i n (numL m ++ r) = some (n + m * 128 ^ i, i + (numL m).length)
  | 0, _, _, _, _, _, _, h => by omega
  | f + 1, i, n, m, r, hm, h0, _ => by
    by_cases h : m < 128
    · rw [numL_small h]
      simp only [List.cons_append, List.nil_append, numFrom, List.length_cons, List.length_nil]
      rw [toNat_ofNat (by omega), if_pos h, if_neg (by omega)]
    · rw [numL_great h]
      simp only [List.cons_append, numFrom, List.length_cons]
      rw [toNat_ofNat (by omega), if_neg (by omega)]
      have hp : 128 ^ (f + 1) = 128 ^ f * 128 := Nat.pow_succ ..
      have hd : m / 128 < 128 ^ f := by rw [Nat.div_lt_iff_lt_mul (by omega)]; omega
      have hf : 0 < f := by
        rcases f with _ | f
        · simp at hd; omega
        · omega
      rw [numFrom_num f (i + 1) _ (m / 128) r hd (.inl (by omega)) hf]
      have e : n + (m % 128 + 128 - 128) * 128 ^ i + m / 128 * 128 ^ (i + 1) = n + m * 128 ^ i := by
        have h1 : 128 ^ (i + 1) = 128 * 128 ^ i := by rw [Nat.pow_succ, Nat.mul_comm]
        have h2 : m = m % 128 + 128 * (m / 128) := (Nat.mod_add_div m 128).symm
        rw [h1, ← Nat.mul_assoc, Nat.add_sub_cancel, Nat.add_assoc, ← Nat.add_mul]
        congr 2
        omega
      rw [e]
      congr 2
      omega

theorem numAt_num {m : Nat} (h : m < 34359738368) (r : List UInt8) : numAt (numL m ++ r) = some (m, (numL m).length) := by
  have := numFrom_num 5 0 0 m r (by simpa using h) (.inr rfl) (by omega)
  simpa [numAt] using this

theorem numL_pos (m : Nat) : 0 < (numL m).length := by
  by_cases h : m < 128
  · simp [numL_small h]
  · simp [numL_great h]

/-- what comes of reading: a number of at most 35 bits, of one to five bytes that are there -/
theorem numFrom_some : ∀ (f i n : Nat) (l : List UInt8) (x : Nat × Nat), n < 128 ^ i → numFrom f i n l = some x → x.1 < 128 ^ (i + f) ∧ i < x.2 ∧ x.2 ≤ i + f ∧ x.2 - i ≤ l.length
  | 0, _, _, _, _, _, h => by simp [numFrom] at h
  | f + 1, i, n, [], _, _, h => by simp [numFrom] at h
  | f + 1, i, n, d :: r, x, hn, h => by
    have hd := d.toNat_lt
    have h1 : 128 ^ (i + 1) = 128 * 128 ^ i := by rw [Nat.pow_succ, Nat.mul_comm]
    have hmono : 128 ^ (i + 1) ≤ 128 ^ (i + (f + 1)) := Nat.pow_le_pow_right (by omega) (by omega)
    simp only [numFrom] at h
    split at h
    · rename_i h2
      split at h
      · simp at h
      · simp only [Option.some.injEq] at h
        subst h
        have : n + d.toNat * 128 ^ i < 128 ^ (i + 1) := by
          rw [h1]
          have : d.toNat * 128 ^ i ≤ 127 * 128 ^ i := Nat.mul_le_mul_right _ (by omega)
          omega
        simp only [List.length_cons]
        exact ⟨by omega, by omega, by omega, by omega⟩
    · rename_i h2
      have hb : n + (d.toNat - 128) * 128 ^ i < 128 ^ (i + 1) := by
        rw [h1]
        have : (d.toNat - 128) * 128 ^ i ≤ 127 * 128 ^ i := Nat.mul_le_mul_right _ (by omega)
        omega
      have := numFrom_some f (i + 1) _ r x hb h
      have e : i + 1 + f = i + (f + 1) := by omega
      rw [e] at this
      simp only [List.length_cons]
      omega

theorem numAt_some {l : List UInt8} {x : Nat × Nat} (h : numAt l = some x) : x.1 < 34359738368 ∧ 0 < x.2 ∧ x.2 ≤ 5 ∧ x.2 ≤ l.length := by
  have := numFrom_some 5 0 0 l x (by simp) h
  simpa using this

/-- the check's table -/
def turnsL : List Nat := [0x00000000, 0x1db71064, 0x3b6e20c8, 0x26d930ac, 0x76dc4190, 0x6b6b51f4, 0x4db26158, 0x5005713c, 0xedb88320, 0xf00f9344, 0xd6d6a3e8, 0xcb61b38c, 0x9b64c2b0, 0x86d3d2d4, 0xa00ae278, 0xbdbdf21c]

def turnAt (i : Nat) : Nat := turnsL.getD i 0

def crc4 (c : Nat) : Nat := (c / 16) ^^^ turnAt (c % 16)

def crcB (c b : Nat) : Nat := crc4 (crc4 (c ^^^ b))

def crcL (c : Nat) (l : List UInt8) : Nat := l.foldl (fun c b => crcB c b.toNat) c

/-- the check of bytes behind those whose check is c -/
def ovL (c : Nat) (l : List UInt8) : Nat := 4294967295 - crcL (4294967295 - c) l

/-- a check's bytes -/
def sumL (c : Nat) : List UInt8 := [UInt8.ofNat (c / 16777216), UInt8.ofNat (c / 65536 % 256), UInt8.ofNat (c / 256 % 256), UInt8.ofNat (c % 256)]

def checkL (l : List UInt8) : List UInt8 := sumL (ovL 0 l)

theorem turn_lt : ∀ i, turnAt i < 4294967296 := by
  intro i
  by_cases h : i < 16
  · have : ∀ j : Fin 16, turnAt j.val < 4294967296 := by decide
    exact this ⟨i, h⟩
  · have h2 : turnsL.length ≤ i := by simp [turnsL]; omega
    simp [turnAt, List.getD_eq_getElem?_getD, List.getElem?_eq_none h2]

theorem xor_lt32 {a b : Nat} (ha : a < 4294967296) (hb : b < 4294967296) : a ^^^ b < 4294967296 := Nat.xor_lt_two_pow (n := 32) ha hb

theorem crc4_lt {c : Nat} (h : c < 4294967296) : crc4 c < 4294967296 := xor_lt32 (by omega) (turn_lt _)

theorem crcB_lt {c b : Nat} (h : c < 4294967296) (hb : b < 256) : crcB c b < 4294967296 := crc4_lt (crc4_lt (xor_lt32 h (by omega)))

theorem crcL_lt : ∀ (l : List UInt8) {c : Nat}, c < 4294967296 → crcL c l < 4294967296
  | [], _, h => h
  | b :: r, c, h => crcL_lt r (c := crcB c b.toNat) (crcB_lt h (by have := b.toNat_lt; omega))

theorem crcL_append (c : Nat) (a b : List UInt8) : crcL c (a ++ b) = crcL (crcL c a) b := by simp [crcL, List.foldl_append]

theorem ovL_lt (c : Nat) (l : List UInt8) : ovL c l < 4294967296 := by unfold ovL; omega

theorem ovL_append {c : Nat} (a b : List UInt8) : ovL c (a ++ b) = ovL (ovL c a) b := by
  unfold ovL
  rw [crcL_append]
  have := crcL_lt a (c := 4294967295 - c) (by omega)
  congr 2
  omega

theorem checkL_length (l : List UInt8) : (checkL l).length = 4 := rfl

end Go.Proofs.YtpagenipflmlfaaGreatDoor

/- The check: over, bytes, checkOf. -/

namespace Go.Proofs.YtpagenipflmlfaaGreatDoor

open Go.RowKit

/-- the table of turns lies so -/
def TurnsAt (w : World) : Prop := ∀ i, i < 16 → w.cell? ⟨8, i, none⟩ = some (.int .u32 (turnAt i : Nat))

theorem xor_u32 {a b : Nat} (ha : a < 4294967296) (hb : b < 4294967296) : bits .xor .u32 (a : Int) (b : Int) = ((a ^^^ b : Nat) : Int) := by
  have hx : a ^^^ b < 2 ^ 32 := Nat.xor_lt_two_pow (by omega) (by omega)
  have h1 : (BitVec.ofInt 32 (a : Int)).toNat = a := by
    rw [BitVec.ofInt_natCast, BitVec.toNat_ofNat]; exact Nat.mod_eq_of_lt (by omega)
  have h2 : (BitVec.ofInt 32 (b : Int)).toNat = b := by
    rw [BitVec.ofInt_natCast, BitVec.toNat_ofNat]; exact Nat.mod_eq_of_lt (by omega)
  show IntKind.u32.wrap ((BitVec.ofInt 32 (a : Int) ^^^ BitVec.ofInt 32 (b : Int)).toNat : Int) = _
  rw [BitVec.toNat_xor, h1, h2, IntKind.wrap_u32]
  omega

theorem not_u32 {c : Nat} (hc : c < 4294967296) : bits .xor .u32 IntKind.u32.max (c : Int) = ((4294967295 - c : Nat) : Int) := by
  have h0 : IntKind.u32.max = ((4294967295 : Nat) : Int) := by simp [IntKind.max, IntKind.bits, IntKind.signed]
  rw [h0, xor_u32 (by omega) hc]
  have h : (BitVec.allOnes 32 ^^^ BitVec.ofNat 32 c).toNat = (~~~ (BitVec.ofNat 32 c)).toNat := by rw [BitVec.allOnes_xor]
  rw [BitVec.toNat_xor, BitVec.toNat_not, BitVec.toNat_allOnes, BitVec.toNat_ofNat, Nat.mod_eq_of_lt (show c < 2 ^ 32 by omega)] at h
  have e : 4294967295 ^^^ c = 4294967295 - c := by simpa using h
  rw [e]

theorem and15_u32 {y : Nat} (hy : y < 4294967296) : bits .and .u32 (y : Int) 15 = ((y % 16 : Nat) : Int) := by
  have h := bits_mask .u32 32 (by simp [IntKind.bits]) (fun n h0 h1 => by rw [IntKind.wrap_u32]; omega) 4 (by omega) (y : Int) (by omega) (by omega)
  simpa using h

theorem crc4_u32 {y : Nat} (hy : y < 4294967296) : bits .xor .u32 ((y : Int) / 16) ((turnAt (y % 16) : Nat) : Int) = ((crc4 y : Nat) : Int) := by
  have h := xor_u32 (a := y / 16) (b := turnAt (y % 16)) (by omega) (turn_lt _)
  have e : ((y / 16 : Nat) : Int) = (y : Int) / 16 := by omega
  rw [e] at h
  rw [h]
  rfl

theorem crcL_take {s : ByteArray} {z k : Nat} (hk : k < s.size) : crcL z (s.data.toList.take (k + 1)) = crc4 (crc4 (crcL z (s.data.toList.take k) ^^^ s[k].toNat)) := by
  have hl : k < s.data.toList.length := by simpa using hk
  rw [List.take_succ_eq_append_getElem hl, crcL_append]
  rfl

set_option maxRecDepth 100000 in
set_option maxHeartbeats 1000000 in
theorem checkOver_any (c : Nat) (s : ByteArray) (w : World) (hc : c < 4294967296) (hs : s.size ≤ maxLen) (ht : TurnsAt w) :
    Calls Tryz.prog 132 #[.int .u32 (c : Nat), .string s] w fun e w' => e = .returned (.int .u32 (ovL c s.data.toList : Nat)) ∧ w' = w := by
  have HT := hid ht
  have HC := hid hc
  have e0 := not_u32 hc
  have HX : Hid (∀ k, crcL (4294967295 - c) (s.data.toList.take k) < 4294967296) := fun k => crcL_lt _ (by omega)
  have HO : Hid (∀ k, ¬ k < s.size → 4294967295 - crcL (4294967295 - c) (s.data.toList.take k) = ovL c s.data.toList) := fun k hk => by
    rw [List.take_of_length_le (by simp; omega)]
    rfl
  have HN : Hid (∀ k, (hk : k < s.size) → crcL (4294967295 - c) (s.data.toList.take (k + 1)) = crc4 (crc4 (crcL (4294967295 - c) (s.data.toList.take k) ^^^ s[k].toNat))) := fun k hk => crcL_take hk
  unfold maxLen at hs
  clear ht hc
  go_enter Tryz.func132, Tryz.ntmps132
  go_wp2_with fail
  go_loop [0, 10] (fun z i => ∃ k : Nat, k ≤ s.size ∧ i = .int .i64 k ∧ z = .int .u32 (crcL (4294967295 - c) (s.data.toList.take k) : Nat)) (fun _ i => s.size - (intOf i).toNat)
  case atStart => exact ⟨0, Nat.zero_le _, rfl, rfl⟩
  case round =>
    obtain ⟨k, hk, rfl, rfl⟩ := hrel
    clear e0
    by_cases hlt : k < s.size
    · have hxl := HX.out k
      have HNK := hid (HN.out k hlt)
      generalize crcL (4294967295 - c) (s.data.toList.take k) = x at *
      have hb : s[k].toNat < 256 := UInt8.toNat_lt _
      have hy : x ^^^ s[k].toNat < 4294967296 := xor_lt32 hxl (by omega)
      have e1 : bits BinOp.xor IntKind.u32 (x : Int) ((s[k].toNat : Int) % 4294967296) = ((x ^^^ s[k].toNat : Nat) : Int) := by
        have : ((s[k].toNat : Int) % 4294967296) = (s[k].toNat : Int) := by omega
        rw [this]
        exact xor_u32 hxl (by omega)
      generalize x ^^^ s[k].toNat = y at *
      have e2 := and15_u32 hy
      have e3 := crc4_u32 hy
      have t1 := HT.out (y % 16) (by omega)
      have hz := crc4_lt hy
      have y16 : y % 16 < 16 := by omega
      generalize crc4 y = z at *
      have e4 := and15_u32 hz
      have e5 := crc4_u32 hz
      have t2 := HT.out (z % 16) (by omega)
      have z16 : z % 16 < 16 := by omega
      clear hxl hb hy hz
      go_wp2
      exact ⟨⟨k + 1, by omega, by go_num, by rw [HNK.out]⟩, by simp only [intOf]; omega⟩
    · have HOK := hid (HO.out k hlt)
      have e6 := not_u32 (HX.out k)
      generalize crcL (4294967295 - c) (s.data.toList.take k) = x at *
      go_wp2
      go_ret
      exact ⟨ret_int (by rw [HOK.out]), rfl⟩

/-! ### texts by their bytes -/

def ofL (l : List UInt8) : ByteArray := ⟨l.toArray⟩

theorem ofL_size (l : List UInt8) : (ofL l).size = l.length := by simp [ofL, ByteArray.size]

theorem ofL_list (l : List UInt8) : (ofL l).data.toList = l := rfl

theorem ofL_self (s : ByteArray) : ofL s.data.toList = s := by cases s; simp [ofL]

theorem ofL_append (a b : List UInt8) : ofL a ++ ofL b = ofL (a ++ b) := by
  apply ByteArray.ext
  simp [ofL]

/-- bytes that were just laid, as a text -/
theorem bytes_new (w1 : World) (ns : List Int) (W : World) (hW : W.heap = (w1.alloc (.cells (ns.map (Value.int .u8)).toArray 5)).heap) :
    (convert 190 9 (.slice (some ⟨w1.heap.size, 0, none⟩) ns.length ns.length)).run Tryz.prog W = .ok (.string (ofL (ns.map fun n => UInt8.ofNat n.toNat))) W := by
  rw [run_convert_bytes_string W _ _ 5 _ _ _ Tryz.underlying190 Tryz.underlying5 Tryz.underlying9]
  have h := run_loadCells_list (P := Tryz.prog) (w := W) ⟨w1.heap.size, 0, none⟩ (ns.map (Value.int .u8)) (fun j v hj => by
    rw [Addr.add_lit, Nat.zero_add]
    have hb : W.heap[w1.heap.size]? = some (.cells (ns.map (Value.int .u8)).toArray 5 (0, 0)) := by rw [hW]; exact heap_new w1 _
    rw [cell_of_heap hb]
    simpa using hj)
  rw [List.length_map] at h
  rw [run_bytesToString W _ _ _ ns h]
  congr 2
  have gen : ∀ (l : List Int) (a : List UInt8), l.foldl (fun r n => r.push (UInt8.ofNat n.toNat)) (ofL a) = ofL (a ++ l.map fun n => UInt8.ofNat n.toNat) := by
    intro l
    induction l with
    | nil => intro a; simp
    | cons n l ih =>
      intro a
      have e : (ofL a).push (UInt8.ofNat n.toNat) = ofL (a ++ [UInt8.ofNat n.toNat]) := by
        apply ByteArray.ext
        simp [ofL, ByteArray.push]
      rw [List.foldl_cons, e, ih]
      simp
  exact gen ns []

set_option maxRecDepth 100000 in
theorem checkBytes_any (c : Nat) (w : World) (hc : c < 4294967296) :
    Calls Tryz.prog 133 #[.int .u32 (c : Nat)] w fun e w' => e = .returned (.string (ofL (sumL c))) ∧ Keeps (fun _ => False) w w' := by
  have hb := bytes_new w [(c : Int) / 16777216 % 256, (c : Int) / 65536 % 256, (c : Int) / 256 % 256, (c : Int) % 256]
  have e : ([(c : Int) / 16777216 % 256, (c : Int) / 65536 % 256, (c : Int) / 256 % 256, (c : Int) % 256].map fun n => UInt8.ofNat n.toNat) = sumL c := by
    have q0 : ((c : Int) / 16777216 % 256).toNat = c / 16777216 := by omega
    have q1 : ((c : Int) / 65536 % 256).toNat = c / 65536 % 256 := by omega
    have q2 : ((c : Int) / 256 % 256).toNat = c / 256 % 256 := by omega
    have q3 : ((c : Int) % 256).toNat = c % 256 := by omega
    simp only [List.map_cons, List.map_nil, q0, q1, q2, q3]
    rfl
  rw [e] at hb
  have hc' := hb (w.alloc (.cells #[.int .u8 ((c : Int) / 16777216 % 256), .int .u8 ((c : Int) / 65536 % 256), .int .u8 ((c : Int) / 256 % 256), .int .u8 ((c : Int) % 256)] 5)) rfl
  simp only [List.length_cons, List.length_nil, Nat.zero_add, Nat.reduceAdd] at hc'
  clear hb e hc
  generalize ofL (sumL c) = r at *
  go_enter Tryz.func133, Tryz.ntmps133
  go_wp2_with fail
  go_ret
  exact ⟨rfl, (Keeps.refl _ _).al _⟩

set_option maxRecDepth 100000 in
theorem checkOf_any (s : ByteArray) (w : World) (hs : s.size ≤ maxLen) (ht : TurnsAt w) :
    Calls Tryz.prog 106 #[.string s] w fun e w' => e = .returned (.string (ofL (checkL s.data.toList))) ∧ Keeps (fun _ => False) w w' := by
  have HO := hid (checkOver_any 0 s w (by omega) hs ht)
  have HB := hid (fun W => checkBytes_any (ovL 0 s.data.toList) W (ovL_lt _ _))
  unfold checkL
  clear hs ht
  go_enter Tryz.func106, Tryz.ntmps106
  go_wp2_with (first
    | (go_at_call 132; go_must (refine (HO.out).mono ?_; rintro e w1 ⟨rfl, rfl⟩))
    | (go_at_call 133; go_must (refine (HB.out _).mono ?_; rintro e w2 ⟨rfl, k2⟩)))
  go_ret
  exact ⟨rfl, k2⟩

end Go.Proofs.YtpagenipflmlfaaGreatDoor

/- The library's facts that the walks lean on, at this program: numbers of functions and types, and one theorem each. -/

namespace Go.Proofs

open Go.Shelf

def Tryz.laysM316_ren : Go.Shelf.Ren := ⟨fun | 316 => 122 | n => n, fun | 9 => 9 | 3 => 3 | 4 => 4 | 37 => 190 | 0 => 0 | 127 => 236 | 5 => 5 | n => n, fun | n => n⟩

theorem Tryz.laysM316 : Go.Proofs.LaysM.n316 Tryz.prog Tryz.laysM316_ren := {
  mixed := by kernel_rfl
  f316 := Tryz.func122.trans (congrArg some (by kernel_rfl))
  t0 := Tryz.underlying0
  a0 := Tryz.isAgg0
  z0 := Tryz.sizeOf0
  v0 := Tryz.zeroValue0
  t3 := Tryz.underlying3
  a3 := Tryz.isAgg3
  z3 := Tryz.sizeOf3
  v3 := Tryz.zeroValue3
  t4 := Tryz.underlying4
  a4 := Tryz.isAgg4
  z4 := Tryz.sizeOf4
  v4 := Tryz.zeroValue4
  t9 := Tryz.underlying9
  a9 := Tryz.isAgg9
  z9 := Tryz.sizeOf9
  v9 := Tryz.zeroValue9
  t37 := Tryz.underlying190
  a37 := Tryz.isAgg190
  z37 := Tryz.sizeOf190
  v37 := Tryz.zeroValue190
  t127 := Tryz.underlying236
  a127 := Tryz.isAgg236
  z127 := Tryz.sizeOf236
  v127 := Tryz.zeroValue236
  t5 := Tryz.underlying5
  a5 := Tryz.isAgg5
  z5 := Tryz.sizeOf5
  v5 := Tryz.zeroValue5
  i0 := by kernel_rfl
  i3 := by kernel_rfl
  i4 := by kernel_rfl
  i5 := by kernel_rfl
  i9 := by kernel_rfl
  i37 := by kernel_rfl
  i127 := by kernel_rfl }

def Tryz.laysNm226_ren : Go.Shelf.Ren := ⟨fun | 26 => 92 | 33 => 125 | 34 => 126 | 38 => 153 | n => n, fun | 24 => 43 | 9 => 9 | 3 => 3 | 4 => 4 | 40 => 201 | 0 => 0 | n => n, fun | n => n⟩

theorem Tryz.laysNm226 : Go.Proofs.Lays2.n26 Tryz.prog Tryz.laysNm226_ren := {
  mixed := by kernel_rfl
  f26 := Tryz.func92.trans (congrArg some (by kernel_rfl))
  f33 := Tryz.func125.trans (congrArg some (by kernel_rfl))
  f34 := Tryz.func126.trans (congrArg some (by kernel_rfl))
  f38 := Tryz.func153.trans (congrArg some (by kernel_rfl))
  t0 := Tryz.underlying0
  a0 := Tryz.isAgg0
  z0 := Tryz.sizeOf0
  v0 := Tryz.zeroValue0
  t3 := Tryz.underlying3
  a3 := Tryz.isAgg3
  z3 := Tryz.sizeOf3
  v3 := Tryz.zeroValue3
  t4 := Tryz.underlying4
  a4 := Tryz.isAgg4
  z4 := Tryz.sizeOf4
  v4 := Tryz.zeroValue4
  t9 := Tryz.underlying9
  a9 := Tryz.isAgg9
  z9 := Tryz.sizeOf9
  v9 := Tryz.zeroValue9
  t24 := Tryz.underlying43
  a24 := Tryz.isAgg43
  z24 := Tryz.sizeOf43
  v24 := Tryz.zeroValue43
  t40 := Tryz.underlying201
  a40 := Tryz.isAgg201
  z40 := Tryz.sizeOf201
  v40 := Tryz.zeroValue201 }

def Tryz.laysNm222_ren : Go.Shelf.Ren := ⟨fun | 22 => 143 | 29 => 161 | 30 => 162 | 36 => 175 | 17 => 181 | n => n, fun | 24 => 43 | 9 => 9 | 3 => 3 | 4 => 4 | 0 => 0 | n => n, fun | n => n⟩

theorem Tryz.laysNm222 : Go.Proofs.Lays2.n22 Tryz.prog Tryz.laysNm222_ren := {
  mixed := by kernel_rfl
  f17 := Tryz.func181.trans (congrArg some (by kernel_rfl))
  f22 := Tryz.func143.trans (congrArg some (by kernel_rfl))
  f29 := Tryz.func161.trans (congrArg some (by kernel_rfl))
  f30 := Tryz.func162.trans (congrArg some (by kernel_rfl))
  f36 := Tryz.func175.trans (congrArg some (by kernel_rfl))
  t0 := Tryz.underlying0
  a0 := Tryz.isAgg0
  z0 := Tryz.sizeOf0
  v0 := Tryz.zeroValue0
  t3 := Tryz.underlying3
  a3 := Tryz.isAgg3
  z3 := Tryz.sizeOf3
  v3 := Tryz.zeroValue3
  t4 := Tryz.underlying4
  a4 := Tryz.isAgg4
  z4 := Tryz.sizeOf4
  v4 := Tryz.zeroValue4
  t9 := Tryz.underlying9
  a9 := Tryz.isAgg9
  z9 := Tryz.sizeOf9
  v9 := Tryz.zeroValue9
  t24 := Tryz.underlying43
  a24 := Tryz.isAgg43
  z24 := Tryz.sizeOf43
  v24 := Tryz.zeroValue43
  i9 := by kernel_rfl }

def Tryz.laysNm224_ren : Go.Shelf.Ren := ⟨fun | 24 => 163 | n => n, fun | 24 => 43 | 9 => 9 | 3 => 3 | 4 => 4 | 0 => 0 | n => n, fun | n => n⟩

theorem Tryz.laysNm224 : Go.Proofs.Lays2.n24 Tryz.prog Tryz.laysNm224_ren := {
  mixed := by kernel_rfl
  f24 := Tryz.func163.trans (congrArg some (by kernel_rfl))
  t0 := Tryz.underlying0
  a0 := Tryz.isAgg0
  z0 := Tryz.sizeOf0
  v0 := Tryz.zeroValue0
  t3 := Tryz.underlying3
  a3 := Tryz.isAgg3
  z3 := Tryz.sizeOf3
  v3 := Tryz.zeroValue3
  t4 := Tryz.underlying4
  a4 := Tryz.isAgg4
  z4 := Tryz.sizeOf4
  v4 := Tryz.zeroValue4
  t9 := Tryz.underlying9
  a9 := Tryz.isAgg9
  z9 := Tryz.sizeOf9
  v9 := Tryz.zeroValue9
  t24 := Tryz.underlying43
  a24 := Tryz.isAgg43
  z24 := Tryz.sizeOf43
  v24 := Tryz.zeroValue43
  i9 := by kernel_rfl }

def Tryz.keys77_ren : Go.Shelf.Ren := ⟨fun | 7 => 77 | 10 => 120 | n => n, fun | 23 => 90 | 26 => 9 | 3 => 147 | 28 => 121 | 0 => 0 | 27 => 120 | 33 => 111 | 4 => 4 | n => n, fun | n => n⟩

theorem Tryz.keys77 : Go.Proofs.SlLaysZ.n7 Tryz.prog Tryz.keys77_ren := {
  mixed := by kernel_rfl
  f7 := ⟨Tryz.f77.name, by decide, Tryz.func77.trans (congrArg some (by kernel_rfl))⟩
  f10 := ⟨Tryz.f120.name, by decide, Tryz.func120.trans (congrArg some (by kernel_rfl))⟩
  t0 := Tryz.underlying0
  a0 := Tryz.isAgg0
  z0 := Tryz.sizeOf0
  v0 := Tryz.zeroValue0
  t4 := Tryz.underlying4
  a4 := Tryz.isAgg4
  z4 := Tryz.sizeOf4
  v4 := Tryz.zeroValue4
  t23 := Tryz.underlying90
  a23 := Tryz.isAgg90
  z23 := Tryz.sizeOf90
  v23 := Tryz.zeroValue90
  t26 := Tryz.underlying9
  a26 := Tryz.isAgg9
  z26 := Tryz.sizeOf9
  v26 := Tryz.zeroValue9
  t27 := Tryz.underlying120
  a27 := Tryz.isAgg120
  z27 := Tryz.sizeOf120
  v27 := Tryz.zeroValue120
  t28 := Tryz.underlying121
  a28 := Tryz.isAgg121
  z28 := Tryz.sizeOf121
  v28 := Tryz.zeroValue121
  t33 := Tryz.underlying111
  a33 := Tryz.isAgg111
  z33 := Tryz.sizeOf111
  v33 := Tryz.zeroValue111 }

def Tryz.sorted76_ren : Go.Shelf.Ren := ⟨fun | 6 => 76 | 8 => 118 | 9 => 119 | 11 => 147 | 13 => 149 | 12 => 148 | 23 => 173 | 24 => 174 | 14 => 165 | 15 => 166 | 16 => 167 | 17 => 168 | 18 => 169 | 19 => 170 | 20 => 125 | 21 => 171 | 22 => 172 | 25 => 176 | 26 => 177 | 27 => 178 | 28 => 179 | 29 => 180 | 30 => 153 | 31 => 182 | n => n, fun | 26 => 9 | 28 => 121 | 24 => 43 | 0 => 0 | 3 => 3 | 37 => 201 | 48 => 124 | 50 => 266 | 4 => 4 | 40 => 259 | 39 => 258 | 45 => 160 | 5 => 5 | 9 => 9 | 51 => 267 | 55 => 99 | 57 => 272 | 58 => 273 | 33 => 111 | n => n, fun | n => n⟩

theorem Tryz.sorted76 : Go.Proofs.SlLaysZ.n6 Tryz.prog Tryz.sorted76_ren := {
  mixed := by kernel_rfl
  f6 := ⟨Tryz.f76.name, by decide, Tryz.func76.trans (congrArg some (by kernel_rfl))⟩
  f8 := ⟨Tryz.f118.name, by decide, Tryz.func118.trans (congrArg some (by kernel_rfl))⟩
  f11 := ⟨Tryz.f147.name, by decide, Tryz.func147.trans (congrArg some (by kernel_rfl))⟩
  t0 := Tryz.underlying0
  a0 := Tryz.isAgg0
  z0 := Tryz.sizeOf0
  v0 := Tryz.zeroValue0
  t24 := Tryz.underlying43
  a24 := Tryz.isAgg43
  z24 := Tryz.sizeOf43
  v24 := Tryz.zeroValue43
  t26 := Tryz.underlying9
  a26 := Tryz.isAgg9
  z26 := Tryz.sizeOf9
  v26 := Tryz.zeroValue9
  t28 := Tryz.underlying121
  a28 := Tryz.isAgg121
  z28 := Tryz.sizeOf121
  v28 := Tryz.zeroValue121
  i26 := by kernel_rfl }

def Tryz.sort119_ren : Go.Shelf.Ren := ⟨fun | 6 => 119 | 8 => 149 | 9 => 148 | 19 => 173 | 20 => 174 | 21 => 165 | 22 => 166 | 23 => 167 | 24 => 168 | 25 => 169 | 26 => 170 | 27 => 125 | 28 => 171 | 29 => 172 | 36 => 176 | 31 => 177 | 32 => 178 | 37 => 179 | 38 => 180 | 39 => 153 | 41 => 182 | n => n, fun | 27 => 43 | 29 => 9 | 3 => 3 | 32 => 201 | 26 => 43 | 0 => 0 | 44 => 124 | 46 => 266 | 4 => 4 | 36 => 259 | 35 => 258 | 41 => 160 | 5 => 5 | 9 => 9 | 53 => 267 | 57 => 99 | 63 => 272 | 64 => 273 | n => n, fun | n => n⟩

theorem Tryz.sort119 : Go.Proofs.SlLaysM.n6 Tryz.prog Tryz.sort119_ren := {
  mixed := by kernel_rfl
  f6 := ⟨Tryz.f119.name, by decide, Tryz.func119.trans (congrArg some (by kernel_rfl))⟩
  f8 := Tryz.func149.trans (congrArg some (by kernel_rfl))
  f9 := ⟨Tryz.f148.name, by decide, Tryz.func148.trans (congrArg some (by kernel_rfl))⟩
  f19 := Tryz.func173.trans (congrArg some (by kernel_rfl))
  f20 := Tryz.func174.trans (congrArg some (by kernel_rfl))
  f21 := ⟨Tryz.f165.name, by decide, Tryz.func165.trans (congrArg some (by kernel_rfl))⟩
  f22 := ⟨Tryz.f166.name, by decide, Tryz.func166.trans (congrArg some (by kernel_rfl))⟩
  f23 := ⟨Tryz.f167.name, by decide, Tryz.func167.trans (congrArg some (by kernel_rfl))⟩
  f24 := ⟨Tryz.f168.name, by decide, Tryz.func168.trans (congrArg some (by kernel_rfl))⟩
  f25 := ⟨Tryz.f169.name, by decide, Tryz.func169.trans (congrArg some (by kernel_rfl))⟩
  f26 := ⟨Tryz.f170.name, by decide, Tryz.func170.trans (congrArg some (by kernel_rfl))⟩
  f27 := ⟨Tryz.f125.name, by decide, Tryz.func125.trans (congrArg some (by kernel_rfl))⟩
  f28 := ⟨Tryz.f171.name, by decide, Tryz.func171.trans (congrArg some (by kernel_rfl))⟩
  f29 := ⟨Tryz.f172.name, by decide, Tryz.func172.trans (congrArg some (by kernel_rfl))⟩
  f31 := Tryz.func177.trans (congrArg some (by kernel_rfl))
  f32 := Tryz.func178.trans (congrArg some (by kernel_rfl))
  f36 := ⟨Tryz.f176.name, by decide, Tryz.func176.trans (congrArg some (by kernel_rfl))⟩
  f37 := ⟨Tryz.f179.name, by decide, Tryz.func179.trans (congrArg some (by kernel_rfl))⟩
  f38 := ⟨Tryz.f180.name, by decide, Tryz.func180.trans (congrArg some (by kernel_rfl))⟩
  f39 := ⟨Tryz.f153.name, by decide, Tryz.func153.trans (congrArg some (by kernel_rfl))⟩
  f41 := ⟨Tryz.f182.name, by decide, Tryz.func182.trans (congrArg some (by kernel_rfl))⟩
  t0 := Tryz.underlying0
  a0 := Tryz.isAgg0
  z0 := Tryz.sizeOf0
  v0 := Tryz.zeroValue0
  t3 := Tryz.underlying3
  a3 := Tryz.isAgg3
  z3 := Tryz.sizeOf3
  v3 := Tryz.zeroValue3
  t4 := Tryz.underlying4
  a4 := Tryz.isAgg4
  z4 := Tryz.sizeOf4
  v4 := Tryz.zeroValue4
  t5 := Tryz.underlying5
  a5 := Tryz.isAgg5
  z5 := Tryz.sizeOf5
  v5 := Tryz.zeroValue5
  t9 := Tryz.underlying9
  a9 := Tryz.isAgg9
  z9 := Tryz.sizeOf9
  v9 := Tryz.zeroValue9
  t26 := Tryz.underlying43
  a26 := Tryz.isAgg43
  z26 := Tryz.sizeOf43
  v26 := Tryz.zeroValue43
  t27 := Tryz.underlying43
  a27 := Tryz.isAgg43
  z27 := Tryz.sizeOf43
  v27 := Tryz.zeroValue43
  t29 := Tryz.underlying9
  a29 := Tryz.isAgg9
  z29 := Tryz.sizeOf9
  v29 := Tryz.zeroValue9
  t32 := Tryz.underlying201
  a32 := Tryz.isAgg201
  z32 := Tryz.sizeOf201
  v32 := Tryz.zeroValue201
  t35 := Tryz.underlying258
  a35 := Tryz.isAgg258
  z35 := Tryz.sizeOf258
  v35 := Tryz.zeroValue258
  t36 := Tryz.underlying259
  a36 := Tryz.isAgg259
  z36 := Tryz.sizeOf259
  v36 := Tryz.zeroValue259
  t41 := Tryz.underlying160
  a41 := Tryz.isAgg160
  z41 := Tryz.sizeOf160
  v41 := Tryz.zeroValue160
  t44 := Tryz.underlying124
  a44 := Tryz.isAgg124
  z44 := Tryz.sizeOf124
  v44 := Tryz.zeroValue124
  t46 := Tryz.underlying266
  a46 := Tryz.isAgg266
  z46 := Tryz.sizeOf266
  v46 := Tryz.zeroValue266
  t53 := Tryz.underlying267
  a53 := Tryz.isAgg267
  z53 := Tryz.sizeOf267
  v53 := Tryz.zeroValue267
  t57 := Tryz.underlying99
  a57 := Tryz.isAgg99
  z57 := Tryz.sizeOf99
  v57 := Tryz.zeroValue99
  t63 := Tryz.underlying272
  a63 := Tryz.isAgg272
  z63 := Tryz.sizeOf272
  v63 := Tryz.zeroValue272
  t64 := Tryz.underlying273
  a64 := Tryz.isAgg273
  z64 := Tryz.sizeOf273
  v64 := Tryz.zeroValue273 }

def Tryz.keys93_ren : Go.Shelf.Ren := ⟨fun | 7 => 93 | 10 => 127 | n => n, fun | 23 => 102 | 26 => 9 | 3 => 107 | 28 => 121 | 0 => 0 | 27 => 120 | 33 => 111 | 4 => 4 | n => n, fun | n => n⟩

theorem Tryz.keys93 : Go.Proofs.SlLaysZ.n7 Tryz.prog Tryz.keys93_ren := {
  mixed := by kernel_rfl
  f7 := ⟨Tryz.f93.name, by decide, Tryz.func93.trans (congrArg some (by kernel_rfl))⟩
  f10 := ⟨Tryz.f127.name, by decide, Tryz.func127.trans (congrArg some (by kernel_rfl))⟩
  t0 := Tryz.underlying0
  a0 := Tryz.isAgg0
  z0 := Tryz.sizeOf0
  v0 := Tryz.zeroValue0
  t4 := Tryz.underlying4
  a4 := Tryz.isAgg4
  z4 := Tryz.sizeOf4
  v4 := Tryz.zeroValue4
  t23 := Tryz.underlying102
  a23 := Tryz.isAgg102
  z23 := Tryz.sizeOf102
  v23 := Tryz.zeroValue102
  t26 := Tryz.underlying9
  a26 := Tryz.isAgg9
  z26 := Tryz.sizeOf9
  v26 := Tryz.zeroValue9
  t27 := Tryz.underlying120
  a27 := Tryz.isAgg120
  z27 := Tryz.sizeOf120
  v27 := Tryz.zeroValue120
  t28 := Tryz.underlying121
  a28 := Tryz.isAgg121
  z28 := Tryz.sizeOf121
  v28 := Tryz.zeroValue121
  t33 := Tryz.underlying111
  a33 := Tryz.isAgg111
  z33 := Tryz.sizeOf111
  v33 := Tryz.zeroValue111 }

end Go.Proofs

/- The library's contracts that the program's walks lean on, laid at this dump. -/

namespace Go.Proofs

open Go.Shelf

namespace YtpagenipflmlfaaGreatDoor

open Go.RowKit

theorem slClone_any (s : ByteArray) (w : World) (hlim : s.size ≤ 281474976710656) :
    Calls Tryz.prog 122 #[.string s] w fun e w' => e = .returned (.string s) ∧ Below w.heap.size w w' := Any.stringslite_Clone Tryz.laysM316 s w hlim

theorem slSearch_any (b off n c : Nat) (Sx : Nat → ByteArray) (x : ByteArray) (w : World) (hbig : n < 4611686018427387904) (hc : ∀ j, j < n → w.cell? ⟨b, off + j, none⟩ = some (.string (Sx j))) :
    Calls Tryz.prog 92 #[.slice (some ⟨b, off, none⟩) n c, .string x] w fun e w' =>
      e = .returned (.tuple #[.int .i64 (Lib.bsGo (fun t => Op.bytesLess (Sx t).toList x.toList) n 0 n : Nat), .bool (decide (Lib.bsGo (fun t => Op.bytesLess (Sx t).toList x.toList) n 0 n < n ∧ Sx (Lib.bsGo (fun t => Op.bytesLess (Sx t).toList x.toList) n 0 n) = x))]) ∧ ∃ q, w' = w.drewN q :=
  Any2.slices_BinarySearch_string Tryz.laysNm226 b off n c Sx x w hbig hc

theorem slSearch_empty (a : Option Addr) (c : Nat) (x : ByteArray) (w : World) :
    Calls Tryz.prog 92 #[.slice a 0 c, .string x] w fun e w' => e = .returned (.tuple #[.int .i64 0, .bool false]) ∧ w' = w :=
  Any2.slices_BinarySearch_string_empty Tryz.laysNm226 a c x w

theorem slInsert_shift (b off n c i vb voff m vc : Nat) (cs vs : List Value) (w : World) (hi : i < n) (hm : 0 < m) (hroom : n + m ≤ c) (hc63 : c ≤ 9223372036854775807) (hvb : vb ≠ b)
    (hcl : cs.length = n) (hvl : vs.length = m)
    (hcs : ∀ j v, cs[j]? = some v → w.cell? ⟨b, off + j, none⟩ = some v) (hsp : ∀ j, j < n + m → (w.cell? ⟨b, off + j, none⟩).isSome = true) (hfz : ∀ j, j < n + m → w.frozen? ⟨b, off + j, none⟩ = false)
    (hvs : ∀ j v, vs[j]? = some v → w.cell? ⟨vb, voff + j, none⟩ = some v) (h1c : ∀ v ∈ cs, v.oneCell' = true) (h1v : ∀ v ∈ vs, v.oneCell' = true)
    (tA tB : TypeId) (kA kB : Nat) (hsa : w.shape? vb = some (tA, kA)) (hsb : w.shape? b = some (tB, kB)) (hkB : kB ≠ 0) (hfa : w.frozen? ⟨vb, voff, none⟩ = false) (hfe : w.frozen? ⟨vb, kA, none⟩ = false) :
    Calls Tryz.prog 143 #[.slice (some ⟨b, off, none⟩) n c, .int .i64 i, .slice (some ⟨vb, voff, none⟩) m vc] w fun e w' =>
      e = .returned (.slice (some ⟨b, off, none⟩) (n + m) c) ∧ w' = (w.drew.setCells b (off + (i + m)) (cs.drop i)).setCells b (off + i) vs :=
  Any2.slices_Insert_string_shift Tryz.laysNm222 b off n c i vb voff m vc cs vs w hi hm hroom hc63 hvb hcl hvl hcs hsp hfz hvs h1c h1v tA tB kA kB hsa hsb hkB hfa hfe

theorem slInsert_end_room (b off n c vb voff m vc : Nat) (vs : List Value) (w : World) (hm : 0 < m) (hroom : n + m ≤ c) (hc63 : c ≤ 9223372036854775807)
    (hvl : vs.length = m) (hsp : ∀ j, j < m → (w.cell? ⟨b, off + n + j, none⟩).isSome = true) (hfz : ∀ j, j < m → w.frozen? ⟨b, off + n + j, none⟩ = false)
    (hvs : ∀ j v, vs[j]? = some v → w.cell? ⟨vb, voff + j, none⟩ = some v) (h1v : ∀ v ∈ vs, v.oneCell' = true) :
    Calls Tryz.prog 143 #[.slice (some ⟨b, off, none⟩) n c, .int .i64 n, .slice (some ⟨vb, voff, none⟩) m vc] w fun e w' =>
      e = .returned (.slice (some ⟨b, off, none⟩) (n + m) c) ∧ w' = w.setCells b (off + n) vs :=
  Any2.slices_Insert_string_end_room Tryz.laysNm222 b off n c vb voff m vc vs w hm hroom hc63 hvl hsp hfz hvs h1v

theorem slInsert_end_grow (base : Option Addr) (n c vb voff m vc : Nat) (cs vs : List Value) (w : World) (hm : 0 < m) (hnc : n ≤ c) (hroom : c < n + m) (hbig : (n + m) * 16 ≤ 140737488355328)
    (hcl : cs.length = n) (hvl : vs.length = m) (hnil : base = none → n = 0)
    (hcs : ∀ a, base = some a → ∀ j v, cs[j]? = some v → w.cell? (a.add j) = some v)
    (hvs : ∀ j v, vs[j]? = some v → w.cell? ⟨vb, voff + j, none⟩ = some v) (h1v : ∀ v ∈ vs, v.oneCell' = true) :
    Calls Tryz.prog 143 #[.slice base n c, .int .i64 n, .slice (some ⟨vb, voff, none⟩) m vc] w fun e w' =>
      e = .returned (.slice (some ⟨w.heap.size, 0, none⟩) (n + m) (grownCap w (n + m) c 9)) ∧
      w' = w.drew.alloc (.cells ((cs ++ vs).toArray ++ Builtin.zeroCells (Value.string ⟨#[]⟩).cells (grownCap w (n + m) c 9 - (n + m))) 9) :=
  Any2.slices_Insert_string_end_grow Tryz.laysNm222 base n c vb voff m vc cs vs w hm hnc hroom hbig hcl hvl hnil hcs hvs h1v

theorem slInsert_grow (b off n c i vb voff m vc : Nat) (cs vs : List Value) (w : World) (hi : i < n) (hm : 0 < m) (hnc : n ≤ c) (hroom : c < n + m) (hbig : (n + m) * 16 ≤ 140737488355328)
    (hcl : cs.length = n) (hvl : vs.length = m)
    (hcs : ∀ j v, cs[j]? = some v → w.cell? ⟨b, off + j, none⟩ = some v)
    (hvs : ∀ j v, vs[j]? = some v → w.cell? ⟨vb, voff + j, none⟩ = some v) (h1c : ∀ v ∈ cs, v.oneCell' = true) (h1v : ∀ v ∈ vs, v.oneCell' = true) :
    Calls Tryz.prog 143 #[.slice (some ⟨b, off, none⟩) n c, .int .i64 i, .slice (some ⟨vb, voff, none⟩) m vc] w fun e w' =>
      e = .returned (.slice (some ⟨w.heap.size, 0, none⟩) (n + m) (grownCap w (n + m) c 9)) ∧
      w' = (((w.alloc (.cells ((cs.take i).toArray ++ Builtin.zeroCells (Value.string ⟨#[]⟩).cells (n + m - i) ++ Builtin.zeroCells (Value.string ⟨#[]⟩).cells (grownCap w (n + m) c 9 - (n + m))) 9)).drew.setCells w.heap.size i vs).drew).setCells w.heap.size (i + m) (cs.drop i) :=
  Any2.slices_Insert_string_grow Tryz.laysNm222 b off n c i vb voff m vc cs vs w hi hm hnc hroom hbig hcl hvl hcs hvs h1c h1v

end YtpagenipflmlfaaGreatDoor

end Go.Proofs
