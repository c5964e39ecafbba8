/- slices.Backward over the steps of a change. -/
import Derived.Test.YtfcocbcihhdbkaaSN
namespace Go.Proofs.Ytfcocbcihhdbkaa
open Go.RowKit Go.Shelf

attribute [local go_sem] Oper.semAt_some

/-- what the rounds leave to the iterator: the box and the row of steps -/
def KpB (B g : Nat) (A C : World) : Prop := C.heap[B]? = A.heap[B]? ∧ C.heap[g]? = A.heap[g]?

/-- the indices that have come when k are left -/
def comeB (n k : Nat) : List (Fin n) := ((List.finRange n).drop k).reverse

theorem comeB_step {n k : Nat} (h : k < n) : comeB n k = comeB n (k + 1) ++ [⟨k, h⟩] := by
  unfold comeB
  rw [List.drop_eq_getElem_cons (i := k) (by simpa using h)]
  simp

theorem comeB_length (n k : Nat) : (comeB n k).length = n - k := by simp [comeB]

theorem comeB_all (n : Nat) : comeB n n = [] := by simp [comeB]

set_option maxRecDepth 100000 in
set_option maxHeartbeats 600000 in
theorem backward1_any (F : Fence) (n : Nat) (h1 : F.fn 65) (hro : F.round = none) (hn : 1 ≤ n) (l B g cap : Nat) (fs : List Value) (J Jx : List (Fin fs.length) → World → Prop)
    (hY : ∀ pre x W, J pre W → pre.length < fs.length → YieldAt F (n - 1) Try.prog l #[.int .i64 (x.val : Nat), fs[x.val]] W fun e W' => (e = .returned (.bool true) ∧ J (pre ++ [x]) W' ∧ KpB B g W W') ∨ (e = .returned (.bool false) ∧ Jx (pre ++ [x]) W'))
    (W : World) (hB : W.cell? ⟨B, 0, none⟩ = some (.slice (some ⟨g, 0, none⟩) fs.length cap)) (hfs : ∀ i (h : i < fs.length), W.cell? ⟨g, i, none⟩ = some fs[i]) (hl : fs.length < 1000000000000) (h0 : J [] W) :
    CallsIn F n Try.prog 65 #[.func (.yield l) #[] #[], .pointer (some ⟨B, 0, none⟩)] W fun e W' => (∃ v, e = .returned v) ∧ (J (comeB fs.length 0) W' ∨ ∃ pre, Jx pre W') := by
  refine callsIn_of_wp Try.func65 rfl h1 ?_ hro
  simp only [Try.ntmps65, List.size_toArray, List.length_cons, List.length_nil, Nat.reduceAdd, Nat.reduceSub, Array.replicate_succ, Array.replicate_zero, List.push_toArray, List.append_toArray, List.nil_append, List.cons_append]
  gi_wp2
  gi_loopw [3] (fun i wr => ∃ k : Nat, k ≤ fs.length ∧ i = .int .i64 ((k : Int) - 1) ∧ J (comeB fs.length k) wr ∧ KpB B g W wr) (fun i _ => (intOf i + 1).toNat)
  case atStart => exact ⟨fs.length, Nat.le_refl _, rfl, by rw [comeB_all]; exact h0, rfl, rfl⟩
  case round =>
    obtain ⟨k, hk, rfl, hJs, hKp⟩ := hrel
    have hB' : wr.cell? ⟨B, 0, none⟩ = some (.slice (some ⟨g, 0, none⟩) fs.length cap) := by
      rw [← hB]; simp only [World.cell?, hKp.1]
    rcases Nat.eq_zero_or_pos k with rfl | hk0
    · gi_wp2
      go_end0
      exact ⟨⟨_, rfl⟩, .inl hJs⟩
    · obtain ⟨j, rfl⟩ : ∃ j, k = j + 1 := ⟨k - 1, by omega⟩
      have hj : j < fs.length := by omega
      have hcj : wr.cell? ⟨g, j, none⟩ = some fs[j] := by
        rw [← hfs j hj]; simp only [World.cell?, hKp.2]
      have ej : ((j + 1 : Nat) : Int) - 1 = (j : Int) := by omega
      rw [ej]
      obtain ⟨fn, tmps, assign, body, hy, hR⟩ := hY _ ⟨j, hj⟩ wr hJs (by rw [comeB_length]; omega)
      simp only at hy
      gi_wp2
      refine hR.mono ?_
      have hst := comeB_step hj
      rintro e W3 (⟨rfl, hJ3, hk3⟩ | ⟨rfl, hJx3⟩)
      · rw [← hst] at hJ3
        have hKp3 : KpB B g W W3 := ⟨hk3.1.trans hKp.1, hk3.2.trans hKp.2⟩
        clear hY hst hk3 hy hR hB' hcj hfs hB hKp hJs
        gi_wp2
        refine ⟨⟨j, by omega, rfl, hJ3, hKp3⟩, ?_⟩
        simp only [intOf]
        omega
      · clear hY hst hy hR hB' hcj hfs hB hKp hJs
        gi_wp2
        refine bodyPost_ret (results_none rfl _ _ _) rfl ?_
        exact ⟨⟨_, rfl⟩, .inr ⟨_, hJx3⟩⟩

theorem backward_stops (F : Fence) (n : Nat) (h1 : F.fn 65) (hro : F.round = none) (hn : 1 ≤ n) (B g cap : Nat) (fs : List Value) (w : World) (hB : B < w.heap.size) (hg : g < w.heap.size) (hc : w.cell? ⟨B, 0, none⟩ = some (.slice (some ⟨g, 0, none⟩) fs.length cap))
    (hfs : ∀ i (h : i < fs.length), w.cell? ⟨g, i, none⟩ = some fs[i]) (hl : fs.length < 1000000000000) :
    SeqStopsK F n Try.prog 65 #[.pointer (some ⟨B, 0, none⟩)] (fun x : Fin fs.length => #[.int .i64 (x.val : Nat), fs[x.val]]) (KpB B g) (fun xs => xs = comeB fs.length 0) (fun _ => True) fs.length w := fun l J Jx W hW _ _ hY h0 => by
  have hc' := (hW.cell (p := ⟨B, 0, none⟩) hB).trans hc
  refine (backward1_any F n h1 hro hn l B g cap fs J Jx hY W hc' (fun i hi => (hW.cell (p := ⟨g, i, none⟩) hg).trans (hfs i hi)) hl h0).mono fun e W' ⟨he, hj⟩ => ⟨he, ?_⟩
  rcases hj with hj | ⟨pre, hj⟩
  · exact .inl ⟨_, rfl, hj⟩
  · exact .inr ⟨pre, trivial, hj⟩

end Go.Proofs.Ytfcocbcihhdbkaa
