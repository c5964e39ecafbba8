/- Look. -/
import Derived.Test.YtfcocbcihhdbkaaSV
namespace Go.Proofs.Ytfcocbcihhdbkaa
open Go.RowKit

theorem look_results (W : World) (b : Nat) (x0 x1 x2 x3 x4 x5 : Value) (tmps : Array Value) (h2 : tmps.getD 2 undef = .pointer (some ⟨b, 0, none⟩)) (h : W.heap[b]? = some (.cells #[x0, x1, x2, x3, x4, x5] 38 (0, 0))) :
    (results Try.f12 tmps).run Try.prog W = .ok (.agg #[x0, x1, x2, x3, x4, x5]) W := by
  have e0 := cell_of_heap h 0
  have e1 := cell_of_heap h 1
  have e2 := cell_of_heap h 2
  have e3 := cell_of_heap h 3
  have e4 := cell_of_heap h 4
  have e5 := cell_of_heap h 5
  simp at e0 e1 e2 e3 e4 e5
  simp only [Array.getD_eq_getD_getElem?] at h2
  simp [results, Try.results12, go_sem, h2, e0, e1, e2, e3, e4, e5]

theorem heap_set6 {W : World} {b : Nat} {x0 x1 x2 x3 x4 x5 : Value} {e : TypeId} (h : W.heap[b]? = some (.cells #[x0, x1, x2, x3, x4, x5] e (0, 0))) (v0 v1 v2 v3 v4 v5 : Value) :
    ((((((W.setCell ⟨b, 0, none⟩ v0).setCell ⟨b, 1, none⟩ v1).setCell ⟨b, 2, none⟩ v2).setCell ⟨b, 3, none⟩ v3).setCell ⟨b, 4, none⟩ v4).setCell ⟨b, 5, none⟩ v5).heap[b]? = some (.cells #[v0, v1, v2, v3, v4, v5] e (0, 0)) := by
  have := heap_setCell_same (i := 5) (heap_setCell_same (i := 4) (heap_setCell_same (i := 3) (heap_setCell_same (i := 2) (heap_setCell_same (i := 1) (heap_setCell_same (i := 0) h v0) v1) v2) v3) v4) v5
  simpa using this

theorem keep6 {W : World} {s e : Nat} {v0 v1 v2 v3 v4 v5 u0 u1 u3 u6 : Value} (h : s ≠ e) (h0 : W.cell? ⟨s, 0, none⟩ = some u0) (h1 : W.cell? ⟨s, 1, none⟩ = some u1) (h3 : W.cell? ⟨s, 3, none⟩ = some u3) (h6 : W.cell? ⟨s, 6, none⟩ = some u6) :
    let W' := (((((W.setCell ⟨e, 0, none⟩ v0).setCell ⟨e, 1, none⟩ v1).setCell ⟨e, 2, none⟩ v2).setCell ⟨e, 3, none⟩ v3).setCell ⟨e, 4, none⟩ v4).setCell ⟨e, 5, none⟩ v5
    W'.cell? ⟨s, 0, none⟩ = some u0 ∧ W'.cell? ⟨s, 1, none⟩ = some u1 ∧ W'.cell? ⟨s, 3, none⟩ = some u3 ∧ W'.cell? ⟨s, 6, none⟩ = some u6 := by
  have hk : Keeps (· = e) W ((((((W.setCell ⟨e, 0, none⟩ v0).setCell ⟨e, 1, none⟩ v1).setCell ⟨e, 2, none⟩ v2).setCell ⟨e, 3, none⟩ v3).setCell ⟨e, 4, none⟩ v4).setCell ⟨e, 5, none⟩ v5) :=
    ((((((Keeps.refl (· = e) W).st (.inr rfl) _).st (.inr rfl) _).st (.inr rfl) _).st (.inr rfl) _).st (.inr rfl) _).st (.inr rfl) _
  exact ⟨hk.cell (p := ⟨s, 0, none⟩) h0 h, hk.cell (p := ⟨s, 1, none⟩) h1 h, hk.cell (p := ⟨s, 3, none⟩) h3 h, hk.cell (p := ⟨s, 6, none⟩) h6 h⟩

set_option maxRecDepth 100000 in
set_option maxHeartbeats 800000 in
/-- Look, by what it counts -/
theorem look_core (R : Rep) (w : World) (h : StoreAt w R) (pp pc : Int → Prop)
    (hP : ∀ W, Keeps (fun _ => False) w W → Calls Try.prog 27 #[.pointer (some ⟨R.sb, 0, none⟩)] W fun e w' => ∃ c : Int, pp c ∧ e = .returned (.int .i64 c) ∧ Keeps (fun _ => False) W w')
    (hC : ∀ W, Keeps (fun _ => False) w W → Calls Try.prog 28 #[.pointer (some ⟨R.sb, 7, none⟩)] W fun e w' => ∃ c : Int, pc c ∧ e = .returned (.int .i64 c) ∧ Keeps (fun _ => False) W w') :
    Calls Try.prog 12 #[.pointer (some ⟨R.sb, 0, none⟩)] w fun e w' => (∃ p c : Int, pp p ∧ pc c ∧ e = .returned (.agg #[.int .i64 R.now, .int .i64 R.floor, .int .i64 R.works.length, .int .i64 p, .int .i64 c, .int .i64 R.copyings.length])) ∧ Keeps (fun _ => False) w w' := by
  have HP := hid hP
  have HC := hid hC
  have HL : Hid (∀ W, Keeps (fun _ => False) w W → (Builtin.len_ #[59] 3 #[.map R.wm]).run Try.prog W = .ok (.int .i64 R.works.length) W) := fun W hk => by
    have := (h.kept hk (fun _ _ h => h)).works.worksMap.length (P := Try.prog) Try.underlying59 3
    rwa [List.length_map] at this
  have HL6 : Hid (∀ W, Keeps (fun _ => False) w W → (Builtin.len_ #[61] 3 #[.map R.cm]).run Try.prog W = .ok (.int .i64 R.copyings.length) W) := fun W hk => by
    have := (h.kept hk (fun _ _ h => h)).works.copyMap.length (P := Try.prog) Try.underlying61 3
    rwa [List.length_map] at this
  have hc0 : w.cell? ⟨R.sb, 0, none⟩ = some (.int .i64 R.now) := h.cell 0
  have hc1 : w.cell? ⟨R.sb, 1, none⟩ = some (.int .i64 R.floor) := h.cell 1
  have hc3 : w.cell? ⟨R.sb, 3, none⟩ = some (.map R.wm) := h.cell 3
  have hc6 : w.cell? ⟨R.sb, 6, none⟩ = some (.map R.cm) := h.cell 6
  have hlt := h.lt
  clear h hP hC
  go_enter Try.func12, Try.ntmps12
  go_wp2_with fail
  have hl0 := HL.out ((w.alloc (.cells #[.int .i64 0, .int .i64 0, .int .i64 0, .int .i64 0, .int .i64 0, .int .i64 0] 38)).drew) (((Keeps.refl (fun _ => False) w).al _).dr)
  have hm0 := HL6.out ((w.alloc (.cells #[.int .i64 0, .int .i64 0, .int .i64 0, .int .i64 0, .int .i64 0, .int .i64 0] 38)).drew) (((Keeps.refl (fun _ => False) w).al _).dr)
  have hne : R.sb ≠ w.heap.size := by omega
  have HC0 := hid (And.intro hc0 (And.intro hc1 (And.intro hc3 hc6)))
  go_region_held3 (fun W => W.cell? ⟨R.sb, 0, none⟩ = some (.int .i64 R.now) ∧ W.cell? ⟨R.sb, 1, none⟩ = some (.int .i64 R.floor) ∧ W.cell? ⟨R.sb, 3, none⟩ = some (.map R.wm) ∧ W.cell? ⟨R.sb, 6, none⟩ = some (.map R.cm) ∧ (Builtin.len_ #[59] 3 #[.map R.wm]).run Try.prog W = .ok (.int .i64 R.works.length) W ∧ (Builtin.len_ #[61] 3 #[.map R.cm]).run Try.prog W = .ok (.int .i64 R.copyings.length) W) (first | go_keep | (refine ⟨(keep6 hne r0 r1 r3 r6).1, (keep6 hne r0 r1 r3 r6).2.1, (keep6 hne r0 r1 r3 r6).2.2.1, (keep6 hne r0 r1 r3 r6).2.2.2, HL.out _ ?_, HL6.out _ ?_⟩; all_goals exact (((((hk4'.st (.inl (Nat.le_refl _)) _).st (.inl (Nat.le_refl _)) _).st (.inl (Nat.le_refl _)) _).st (.inl (Nat.le_refl _)) _).st (.inl (Nat.le_refl _)) _).st (.inl (Nat.le_refl _)) _)) (first
    | (go_at_call 27; refine (HP.out _ (((Keeps.refl (fun _ => False) w).al _).dr)).mono ?_; rintro e w3 ⟨pn, hpn, rfl, hk3⟩; have hk3' : Keeps (fun _ => False) w w3 := (((Keeps.refl (fun _ => False) w).al _).dr).tr hk3 (fun _ h => h); have hl3 := HL.out w3 hk3'; have hm3 := HL6.out w3 hk3'; have p0 := hk3'.cell (p := ⟨R.sb, 0, none⟩) HC0.out.1 (fun h => h); have p1 := hk3'.cell (p := ⟨R.sb, 1, none⟩) HC0.out.2.1 (fun h => h); have p3 := hk3'.cell (p := ⟨R.sb, 3, none⟩) HC0.out.2.2.1 (fun h => h); have p6 := hk3'.cell (p := ⟨R.sb, 6, none⟩) HC0.out.2.2.2 (fun h => h); have HPN := hid hpn; clear hpn)
    | (go_at_call 28; refine (HC.out _ hk3').mono ?_; rintro e w4 ⟨c, hcc, rfl, hk4⟩; have HCC := hid hcc; clear hcc; have hk4' : Keeps (fun _ => False) w w4 := hk3'.tr hk4 (fun _ h => h); have hl4 := HL.out w4 hk4'; have hm4 := HL6.out w4 hk4'; have r0 := hk4'.cell (p := ⟨R.sb, 0, none⟩) HC0.out.1 (fun h => h); have r1 := hk4'.cell (p := ⟨R.sb, 1, none⟩) HC0.out.2.1 (fun h => h); have r3 := hk4'.cell (p := ⟨R.sb, 3, none⟩) HC0.out.2.2.1 (fun h => h); have r6 := hk4'.cell (p := ⟨R.sb, 6, none⟩) HC0.out.2.2.2 (fun h => h); have hE : w4.heap[w.heap.size]? = some (.cells #[.int .i64 0, .int .i64 0, .int .i64 0, .int .i64 0, .int .i64 0, .int .i64 0] 38 (0, 0)) := box_kept ((Keeps.drew (fun _ => False) _).tr (hk3.tr hk4 (fun _ h => h)) (fun _ h => h)) (fun h => h); have t0 := cell_of_heap hE 0; have t1 := cell_of_heap hE 1; have t2 := cell_of_heap hE 2; have t3 := cell_of_heap hE 3; have t4 := cell_of_heap hE 4; have t5 := cell_of_heap hE 5; have u0 := frozen_of_heap hE 0; have u1 := frozen_of_heap hE 1; have u2 := frozen_of_heap hE 2; have u3 := frozen_of_heap hE 3; have u4 := frozen_of_heap hE 4; have u5 := frozen_of_heap hE 5))
  clear hl0 hl3 hl4 hm0 hm3 hm4 p0 p1 p3 p6 r0 r1 r3 r6 t0 t1 t2 t3 t4 t5 u0 u1 u2 u3 u4 u5
  have HE := hid hE
  clear hE
  go_wp2
  refine bodyPost_ret (look_results _ _ _ _ _ _ _ _ _ rfl (heap_set6 HE.out _ _ _ _ _ _)) rfl ⟨⟨pn, c, HPN.out, HCC.out, rfl⟩, ?_⟩
  exact (((((hk4'.st (.inl (Nat.le_refl _)) _).st (.inl (Nat.le_refl _)) _).st (.inl (Nat.le_refl _)) _).st (.inl (Nat.le_refl _)) _).st (.inl (Nat.le_refl _)) _).st (.inl (Nat.le_refl _)) _

theorem look_any (R : Rep) (w : World) (h : StoreAt w R) (hpm : R.pm = none) (hcm : R.cm = none) :
    Calls Try.prog 12 #[.pointer (some ⟨R.sb, 0, none⟩)] w fun e w' => (∃ c : Int, e = .returned (.agg #[.int .i64 R.now, .int .i64 R.floor, .int .i64 R.works.length, .int .i64 0, .int .i64 c, .int .i64 0])) ∧ Keeps (fun _ => False) w w' := by
  have hcl : R.copyings = [] := by
    have := h.works.copyMap
    rw [hcm] at this
    have h2 : (R.copyings.map fun p => (p.1, p.2.val)) = [] := this
    simpa using h2
  refine (look_core R w h (· = 0) (fun _ => True) (fun W hk => ?_) (fun W hk => ?_)).mono ?_
  · refine (allPins_nil R.sb W (((h.kept hk (fun _ _ h => h)).cell 4).trans (by rw [← hpm]; rfl))).mono ?_
    rintro e w' ⟨rfl, hk⟩
    exact ⟨0, rfl, rfl, hk⟩
  · refine (count_any R W (h.kept hk (fun _ _ h => h))).mono ?_
    rintro e w' ⟨c, rfl, hk⟩
    exact ⟨c, trivial, rfl, hk⟩
  · rintro e w' ⟨⟨p, c, rfl, -, rfl⟩, hk⟩
    exact ⟨⟨c, by rw [hcl]; rfl⟩, hk⟩

end Go.Proofs.Ytfcocbcihhdbkaa
