/- Sweep. -/
import Derived.Test.YthgojidgaeimnaaV4
namespace Go.Proofs.Ythgojidgaeimnaa
open Go.RowKit Go.Shelf

/-- What Sweep leaves. -/
def SweptPost (R : Rep) (L : Int) (w w' : World) : Prop :=
  ∃ hist vl, StoreAt w' { R with floor := L, kv := vl, keys := leftL R L R.keys.length, hist := hist } ∧ (∀ k, versOf hist k = if memB R.keys k then (versOf R.hist k).drop (needN (versOf R.hist k) L) else versOf R.hist k) ∧
    (∀ k, (look hist k).isSome = true → (look R.hist k).isSome = true) ∧ (∀ p ∈ hist, p.2.vers ≠ []) ∧ Keeps (· ∈ R.fp) w w' ∧ ∀ k ∈ Rep.fp { R with floor := L, kv := vl, keys := leftL R L R.keys.length, hist := hist }, k ∈ R.fp ∨ w.heap.size ≤ k

theorem StoreAt.floorSet {w w' : World} {R : Rep} {C : List Nat} {n : Int} (h : StoreAt w R) (hk : Keeps (fun k => k ∈ C ∨ k = R.sb) w w') (hC : ∀ k ∈ C, k ∉ R.fp) (hb : w'.heap[R.sb]? = (w.setCell ⟨R.sb, 1, none⟩ (.int .i64 n)).heap[R.sb]?) : StoreAt w' { R with floor := n } := by
  refine h.nums hk (fun k hk' => ?_) R.now n R.begun ?_
  · rintro (hc | rfl)
    · exact hC k hc (List.mem_cons_of_mem _ hk')
    · have := h.nodup
      simp only [Rep.fp, List.nodup_cons] at this
      exact this.1 hk'
  · rw [hb]
    exact h.set (R' := { R with floor := n }) (i := 1) (v := .int .i64 n) rfl (by simp [topCells])

set_option maxRecDepth 100000 in
set_option maxHeartbeats 1000000 in
theorem sweep_any (R : Rep) (w : World) (h : StoreAt w R) (g : Good R) (t : Tied R) (hpm : R.pm = none) (b : Nat) (hwm : R.wm = some b) (hkl : R.keys.length < 1000000) :
    Calls Try.prog 17 #[.pointer (some ⟨R.sb, 0, none⟩)] w fun e w' => ∃ L z : Int, e = .returned (.int .i64 z) ∧ IsLeast R.now (R.works.map (·.2.began)) L ∧ SweptPost R L w w' := by
  have hmf : ∀ (fn : Fn) (first cap : Array Value) (w : World), (Instr.makeFunc fn first cap).run Try.prog w = .ok (.func fn first cap) w := fun _ _ _ _ => rfl
  have hk0 : Keeps (fun _ => False) w ((w.alloc (.cells #[.slice none 0 0] 56)).alloc (.cells #[.int .i64 0] 28)) := ((Keeps.refl _ w).al _).al _
  have HLH := hid (leastHeld_any R _ (h.kept hk0 (fun _ _ h => h)) hpm b hwm)
  have hlt := h.lt
  have hcg : Chg ((w.alloc (.cells #[.slice none 0 0] 56)).alloc (.cells #[.int .i64 0] 28)) w.heap.size [] [w.heap.size] := by
    refine ⟨.slice none 0 0, (Below.heap_alloc _ _ _ (by simp)).trans (heap_new w _), Row.nil _ _ _, by simp [Value.ownBlock], rfl⟩
  have he0 : ((w.alloc (.cells #[.slice none 0 0] 56)).alloc (.cells #[.int .i64 0] 28)).heap[w.heap.size + 1]? = some (.cells #[.int .i64 0] 28 (0, 0)) := by
    have := heap_new (w.alloc (.cells #[.slice none 0 0] 56)) (.cells #[.int .i64 0] 28)
    rwa [World.size_alloc] at this
  have HST := hid h
  have HG := hid g
  have HT := hid t
  have HK0 := hid hk0
  have HCG := hid hcg
  have HE0 := hid he0
  clear h g t hk0 hcg he0 hpm hwm
  go_enter_defers Try.func17, Try.ntmps17
  go_wp2_with fail
  refine (HLH.out).mono ?_
  rintro e w1 ⟨L, rfl, hL, k1⟩
  have HL := hid hL
  have hS1 := HST.out.kept (HK0.out.tr k1 (fun _ h => h)) (fun _ _ h => h)
  have hz1 : w.heap.size + 2 ≤ w1.heap.size := by have := k1.size; simp at this; omega
  have HAS := hid (assign_int w.heap.size [] [w.heap.size] R.sb 1 R.floor L w1 (HCG.out.kept k1 (fun _ _ h => h)) (hS1.cell 1) (hS1.frozen 1) (by simp; omega) (by simp))
  have HS1 := hid hS1
  have K1 := hid k1
  clear hL hS1 k1 HLH
  go_wp2_with fail
  refine (HAS.out).mono ?_
  rintro e w2 ⟨rfl, fs1, C1, hf1, hC1, k2, hC1', hb2⟩
  have hflt := fp_lt HST.out
  have hC1f : ∀ k ∈ C1, k = w.heap.size ∨ w1.heap.size ≤ k := fun k hk => by
    rcases hC1' k hk with h1 | h1
    · left; simpa using h1
    · exact .inr h1
  have hS2 : StoreAt w2 { R with floor := L } := HS1.out.floorSet k2 (fun k hk hf => by have := hflt k hf; simp at hk; omega) hb2
  have HPS := hid (pastSweep_any { R with floor := L } L w.heap.size fs1 C1 w2 hS2 ⟨HG.out.now, HG.out.begun, HG.out.works8, HG.out.numbers, HG.out.began, HG.out.writes30, HG.out.wkeys, HG.out.rising, HG.out.states, HG.out.filled, HG.out.hkeys, HG.out.hvals, HG.out.sorted, HG.out.keys⟩ ⟨HT.out.rises, HT.out.keys, HT.out.filled⟩ hC1 (fun k hk hf => by
    have := hflt k hf
    rcases hC1f k hk with h1 | h1 <;> omega) (by rw [hf1]; simp) hkl)
  have K2 := hid k2
  have HC1 := hid hC1f
  clear hS2 hb2 hC1 k2 hC1' hf1 hC1f HAS
  go_wp2_with fail
  refine (HPS.out).mono ?_
  rintro e w3 ⟨z, rfl, hP⟩
  have HP := hid hP
  clear hP HPS
  go_wp2
  have hpost : SweptPost R L w w3 := by
    obtain ⟨hist, vl, p1, p2, p3, p4, p5, p6⟩ := HP.out
    refine ⟨hist, vl, p1, p2, p3, p4, ?_, fun k hk => ?_⟩
    · have q1 : Keeps (· ∈ R.fp) w w1 := (HK0.out.tr K1.out (fun _ h => h)).mono (fun _ _ h => h.elim)
      have q2 : Keeps (· ∈ R.fp) w w2 := q1.trans K2.out (fun k hk h => by
        rcases h with h | h
        · simp at h; omega
        · rw [h]; simp [Rep.fp])
      refine q2.trans p5 (fun k hk h => ?_)
      rcases h with h | h
      · exact h
      · rcases HC1.out k h with h1 | h1 <;> omega
    · rcases p6 k hk with h1 | h1
      · exact .inl h1
      · right
        have := K2.out.size
        omega
  have he3 : w3.cell? ⟨w.heap.size + 1, 0, none⟩ = some (.int .i64 0) := by
    obtain ⟨hist, vl, -, -, -, -, p5, -⟩ := HP.out
    have e1 := (K1.out.block (w.heap.size + 1) (Array.getElem?_eq_some_iff.1 HE0.out).1 (fun h => h)).trans HE0.out
    have e2 := (K2.out.block (w.heap.size + 1) (Array.getElem?_eq_some_iff.1 e1).1 (by rintro (h | h); (simp at h); omega)).trans e1
    have e3 := (p5.block (w.heap.size + 1) (Array.getElem?_eq_some_iff.1 e2).1 (by
      rintro (h | h)
      · have h' : w.heap.size + 1 ∈ R.fp := h
        have := hflt _ h'
        omega
      · rcases HC1.out _ h with h1 | h1 <;> omega)).trans e2
    exact cell_of_heap e3 0
  refine leaves_cons (f := 39) (args := #[.pointer (some ⟨w.heap.size, 0, none⟩), .pointer (some ⟨w.heap.size + 1, 0, none⟩)]) (by simp) (by simp [go_sem]) ?_
  refine (sweep1_ok w.heap.size (w.heap.size + 1) w3 he3).mono ?_
  rintro e u' w'' ⟨rfl, rfl, rfl⟩
  simp [Leaves, settle, results, Try.results17, go_sem]
  exact ⟨L, HL.out, hpost⟩

end Go.Proofs.Ythgojidgaeimnaa
