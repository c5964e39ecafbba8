/- settle, walked where keys have been added. -/
import Derived.Test.YtfcocbcihhdbkaaSP
namespace Go.Proofs.Ytfcocbcihhdbkaa
open Go.RowKit Go.Shelf

attribute [local go_sem] Oper.semAt_some

theorem Keeps.belowB {B : Nat} {w w' : World} (h : Below B w w') : Keeps (fun k => B ≤ k) w w' :=
  ⟨h.os, h.tape, h.output, h.size, fun k _ hn => h.block k (by omega)⟩

/-- the keys of steps that have come -/
def keysAt (ks : List ByteArray) {n : Nat} (pre : List (Fin n)) : List ByteArray := pre.map fun i => ks.getD i.val ByteArray.empty

theorem keysAt_all {ks : List ByteArray} {n : Nat} (h : n = ks.length) : keysAt ks (comeB n 0) = ks.reverse := by
  subst h
  unfold keysAt comeB
  rw [List.drop_zero, List.map_reverse]
  congr 1
  apply List.ext_getElem
  · simp
  · intro i h1 h2
    simp

theorem ownFrom_back {Rj : Rep} {ks : List ByteArray} {w : World} {n B : Nat} (hj : StoreAt w Rj) (hB : w.heap.size ≤ B) : OwnFrom B (fun (pre : List (Fin n)) W => BackAt Rj w (keysAt ks pre) W ∧ w.heap.size < W.heap.size) :=
  fun _ _ _ _ hs hg hr => ⟨hs.1.kept hj (Keeps.grown hg) (fun i e => by have := (hr i e.symm).1; omega), Nat.lt_of_lt_of_le hs.2 hg.size⟩

set_option maxRecDepth 100000 in
set_option maxHeartbeats 600000 in
theorem settle_steps (Rj : Rep) (ks : List ByteArray) (cb eb g cap : Nat) (kbs : List Nat) (n : Int) (hn : 1 ≤ n ∧ n ≤ 9) (w : World) (hS : StoreAt w Rj) (ht : Tied Rj) (hlen : kbs.length = ks.length) (hl30 : ks.length ≤ 30)
    (hc : w.cell? ⟨cb, 0, none⟩ = some (.slice (some ⟨g, 0, none⟩) kbs.length cap)) (hfs : ∀ i (h : i < kbs.length), w.cell? ⟨g, i, none⟩ = some (clo kbs[i])) (hgf : g ∉ Rj.fp) (hgl : g < w.heap.size)
    (hboxes : ∀ i (h : i < kbs.length), w.heap[kbs[i]]? = some (.cells #[.pointer (some ⟨Rj.sb, 0, none⟩)] 23 (0, 0)) ∧ w.heap[kbs[i] + 1]? = some (.cells #[.string (ks.getD i ByteArray.empty)] 9 (0, 0)))
    (hap : ∀ k, (k ∈ kbs ∨ ∃ b ∈ kbs, k = b + 1) → k ∉ Rj.fp) (he : w.cell? ⟨eb, 0, none⟩ = some (.int .i64 n)) (hkl : Rj.keys.length < 1000000000000) (hvl : ∀ x, (versOf Rj.hist x).length < 1000000000000) :
    Calls Try.prog 22 #[.pointer (some ⟨cb, 0, none⟩), .nilIface, .pointer (some ⟨eb, 0, none⟩)] w fun e w' => e = .returned (.tuple #[]) ∧ BackAt Rj w ks.reverse w' := by
  obtain ⟨h1, h2⟩ := hn
  have hnb : (n == 0) = false := by simp; omega
  have hmf : ∀ (fn : Fn) (first cap : Array Value) (w : World), (Instr.makeFunc fn first cap).run Try.prog w = .ok (.func fn first cap) w := fun _ _ _ _ => rfl
  have HS : Hid (StoreAt w Rj) := hS
  have HB0 : Hid (BackAt Rj w [] w) := ⟨Rj, hS, rfl, ht, fun k => by simp [cntK, cutN_zero], fun _ h => h, Keeps.refl _ _, Nat.le_refl _⟩
  have HST : Hid (∀ k (hk : k < kbs.length) pre W, BackAt Rj w pre W → Calls Try.prog 70 #[.pointer (some ⟨kbs[k], 0, none⟩), .pointer (some ⟨kbs[k] + 1, 0, none⟩)] W fun e W' => e = .returned (.tuple #[]) ∧ BackAt Rj w (pre ++ [ks.getD k ByteArray.empty]) W' ∧ Keeps (· ∈ Rj.fp) W W') := fun k hk pre W hW =>
    backAt_step hW (hboxes k hk).2 (hboxes k hk).1 (hap _ (.inl (List.getElem_mem hk))) (hap _ (.inr ⟨_, List.getElem_mem hk, rfl⟩)) hkl hvl
  have HFL : Hid (∀ k ∈ Rj.fp, k < w.heap.size) := fp_lt hS
  have HGF : Hid (g ∉ Rj.fp) := hgf
  have hm30 : kbs.length ≤ 30 := by omega
  have HLEN : Hid (kbs.length = ks.length) := hlen
  clear hS ht hboxes hap hgf hkl hvl hlen hl30
  refine (callsIn_wide (n := 8)).1 ?_
  refine callsIn_of_wp_marks Try.func22 rfl trivial ?_ rfl
  simp only [Try.ntmps22, List.size_toArray, List.length_cons, List.length_nil, Nat.reduceAdd, Nat.reduceSub, Array.replicate_succ, Array.replicate_zero, List.push_toArray, List.append_toArray, List.nil_append, List.cons_append]
  gi_wp2_with (refine ⟨trivial, ?_⟩; gi_at_call 43; go_must (refine (callsIn_wide.2 (backward_any _ _ _ _)).mono ?_; rintro e w1 ⟨rfl, rfl⟩))
  have hlf : (kbs.map clo).length = kbs.length := by simp
  have hseq := backward_stops Fence.wide 7 trivial rfl (by omega) w.heap.size g cap (kbs.map clo) (w.alloc (.cells #[.slice (some ⟨g, 0, none⟩) kbs.length cap] 54)) (by simp) (by simp; omega) (by simp) (fun i hi => by
      have hi' : i < kbs.length := by simpa using hi
      rw [World.cell?_alloc_past _ _ _ hgl, hfs i hi']
      simp) (by rw [hlf]; omega)
  refine wpIn_rangeFunc_ownG (α := Fin (kbs.map clo).length) rfl (by omega) (gf := 65) (lb := #[.pointer (some ⟨w.heap.size, 0, none⟩)]) rfl trivial (enters_of Try.func65 (by kernel_rfl) rfl)
    hseq (fun h k => ⟨k.1.trans h.1, k.2.trans h.2⟩) ?kb (Below.refl _ _) (fun x => rfl)
    (fun pre W => BackAt Rj w (keysAt ks pre) W ∧ w.heap.size < W.heap.size) (fun _ _ _ => False) ?own ?ownx ?start
    (fun x => { tmps := #[.pointer (some ⟨cb, 0, none⟩), .nilIface, .pointer (some ⟨eb, 0, none⟩), undef, undef, undef, undef, (kbs.map clo)[x.val], .nilIface, .bool false, undef, undef, .pointer (some ⟨eb, 0, none⟩), .pointer (some ⟨eb, 0, none⟩), .int .i64 n, .bool false, .pointer (some ⟨cb, 0, none⟩), .pointer (some ⟨cb, 0, none⟩), .pointer (some ⟨cb, 0, none⟩), .slice (some ⟨g, 0, none⟩) kbs.length cap, .func (.func 65) #[] #[.pointer (some ⟨w.heap.size, 0, none⟩)], .int .i64 (x.val : Nat), (kbs.map clo)[x.val], undef, undef], defers := [] }) ?assign ?body ?done (fun _ _ _ _ _ _ h => h.elim)
  case kb =>
    intro W l o o' hl hlo hcells hwalk
    simp at hl
    have hl1 : l ≠ w.heap.size := by omega
    have hl2 : l ≠ g := by omega
    exact ⟨World.putObj_heap_other (Ne.symm hl1), World.putObj_heap_other (Ne.symm hl2)⟩
  case own => exact ownFrom_back HS.out (by simp)
  case ownx => exact fun _ _ _ _ _ h _ _ => h
  case start => exact ⟨HB0.out.kept HS.out (Keeps.alloc (fun _ => False) _ _) (fun _ h => h.elim), by simp⟩
  case assign =>
    intro l x W K hK
    have ez : Array.foldl (fun (t : Array Value) (x : Tmp × Value) => match x with | (p, v) => t.setIfInBounds p v) #[Value.pointer (some ⟨cb, 0, none⟩), .nilIface, .pointer (some ⟨eb, 0, none⟩), undef, undef, undef, undef, undef, .nilIface, .bool false, undef, undef, .pointer (some ⟨eb, 0, none⟩), .pointer (some ⟨eb, 0, none⟩), .int .i64 n, .bool false, .pointer (some ⟨cb, 0, none⟩), .pointer (some ⟨cb, 0, none⟩), .pointer (some ⟨cb, 0, none⟩), .slice (some ⟨g, 0, none⟩) kbs.length cap, .func (.func 65) #[] #[.pointer (some ⟨w.heap.size, 0, none⟩)], undef, undef, undef, undef] (#[21, 22].zip #[Value.int .i64 (x.val : Nat), (kbs.map clo)[x.val]]) = #[Value.pointer (some ⟨cb, 0, none⟩), .nilIface, .pointer (some ⟨eb, 0, none⟩), undef, undef, undef, undef, undef, .nilIface, .bool false, undef, undef, .pointer (some ⟨eb, 0, none⟩), .pointer (some ⟨eb, 0, none⟩), .int .i64 n, .bool false, .pointer (some ⟨cb, 0, none⟩), .pointer (some ⟨cb, 0, none⟩), .pointer (some ⟨cb, 0, none⟩), .slice (some ⟨g, 0, none⟩) kbs.length cap, .func (.func 65) #[] #[.pointer (some ⟨w.heap.size, 0, none⟩)], .int .i64 (x.val : Nat), (kbs.map clo)[x.val], undef, undef] := by kernel_rfl
    simp only [ez]
    gi_wp2
    simp only [List.getElem_map] at hK
    exact hK
  case body =>
    intro l pre x W hI hlt
    have hx' : x.val < kbs.length := by have := x.isLt; simpa using this
    have ex : (kbs.map clo)[x.val] = .func (.func 70) #[] #[.pointer (some ⟨kbs[x.val], 0, none⟩), .pointer (some ⟨kbs[x.val] + 1, 0, none⟩)] := by simp [clo]
    have HC := HST.out x.val hx' (keysAt ks pre) W hI.1
    rw [ex]
    have HI : Hid (w.heap.size < W.heap.size) := hI.2
    generalize kbs[x.val] = kb at HC
    clear hI hseq ex
    gi_wp2_with (refine ⟨trivial, ?_⟩; gi_at_call 70; go_must (refine (CallsIn.inRound l (callsIn_wide.2 HC)).mono ?_; rintro e W1 ⟨rfl, hB1, hk1⟩))
    have hsz := HI.out
    refine ⟨⟨hk1.size, fun k o hk ho _ => ?_⟩, ⟨?_, ?_⟩, ?_, Nat.lt_of_lt_of_le hsz hk1.size⟩
    · simp at hk
      rw [hk1.block k (Array.getElem?_eq_some_iff.1 ho).1 (fun hf => by have := HFL.out k hf; omega)]
      exact ho
    · exact hk1.block _ hsz (fun hf => by have := HFL.out _ hf; omega)
    · exact hk1.block _ (by omega) HGF.out
    · have ek : keysAt ks (pre ++ [x]) = keysAt ks pre ++ [ks.getD x.val ByteArray.empty] := by simp [keysAt]
      rw [ek]
      exact hB1
  case done =>
    rintro D ys W hD rfl hB hK
    gi_wp2
    refine ⟨by simp, .inl ⟨_, _, rfl, run_takeDeferred hK, ?_⟩⟩
    refine ⟨_, results_none rfl _ _ _, rfl, ?_⟩
    have hk0 := hB.1
    rw [keysAt_all (by rw [hlf]; exact HLEN.out)] at hk0
    exact hk0.kept HS.out (Keeps.belowB (belowK_b (w := w) (Nat.le_refl _) W D _ _ (by simp at hD; omega) hK rfl rfl)) (fun _ h => h)

end Go.Proofs.Ytfcocbcihhdbkaa
