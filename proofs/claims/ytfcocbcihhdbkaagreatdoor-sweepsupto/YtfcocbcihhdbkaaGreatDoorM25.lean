import Derived.Test.YtfcocbcihhdbkaaGreatDoorM24
import Derived.Deep.DeepCutAuto
import Derived.Deep.CutBlock

/- The document's store: Write, done. -/
namespace Go.Proofs.YtfcocbcihhdbkaaGreatDoor
open Go.RowKit Go.Shelf

set_option maxRecDepth 100000 in
set_option maxHeartbeats 4000000 in
theorem writeR_ok (R : RRep) (id : Int) (r : RecB) (k : Nat) (x : RWk) (w : World) (h : RefAt w R) (hl : R.works.length < 100000000000) (hf : findL R.works id = some k) (hx : R.works[k]? = some x) (hk : r.key.size ≤ maxLen) (hv : r.value.size ≤ maxLen) (hb1 : keyB r.key = true) (hb2 : valB r.value = true) (hw : x.writes.length < 1000000000000)
    (h30 : (hasL x.writes r.key).isSome = true ∨ x.writes.length < 30) :
    Calls Tryz.prog 127 #[.pointer (some ⟨R.b, 0, none⟩), .int .i64 id, r.val] w fun e w' => e = .returned (.int .i64 0) ∧ ∃ v, RCh 219 R (R.wrote k x v (placedL x.writes r)) w w' := by
  obtain ⟨rk, rv, rg⟩ := r
  simp only [RecB.val]
  simp only at hk hv hb1 hb2 h30
  obtain ⟨w0, hw0⟩ : ∃ w0, w0 = w.alloc (.cells #[.string rk, .string rv, .bool rg] 34) := ⟨_, rfl⟩
  have hk0 : Keeps (fun _ => False) w w0 := hw0 ▸ Keeps.alloc _ _ _
  have h0 : RefAt w0 R := h.kept hk0 (fun _ _ h => h)
  have hbx : w0.heap[w.heap.size]? = some (.cells #[.string rk, .string rv, .bool rg] 34 (0, 0)) := hw0 ▸ heap_new w _
  have hc := findR_any R id w0 h0 (by omega)
  rw [hf] at hc
  have HC := hid hc
  have HIK : Hid (∀ W, Calls Tryz.prog 149 #[.string rk] W fun e w' => e = .returned (.bool (keyB rk)) ∧ w' = W) := fun W => isKeyR_any rk W hk
  have HIV : Hid (∀ W, Calls Tryz.prog 150 #[.string rv] W fun e w' => e = .returned (.bool (valB rv)) ∧ w' = W) := fun W => isValueR_any rv W hv
  rw [hb1] at HIK
  rw [hb2] at HIV
  have hnn : ¬ ((k : Int) < 0) := by omega
  have hxm : x ∈ R.works := List.mem_of_getElem? hx
  have hkl : k < R.works.length := (List.getElem?_eq_some_iff.1 hx).1
  obtain ⟨oa, ca, hva, hm, sa⟩ := h0.works.form
  obtain ⟨g, rfl⟩ := sa (by omega)
  have HH := hid h0
  have HVA := hid hva
  have hrow := h0.works
  rw [hva] at hrow
  obtain ⟨osl, csl, hosl, -, -⟩ := Row.form (h0.writes x hxm)
  have hfacts : ∀ W, Keeps (fun _ => False) w0 W → W.cell? ⟨R.b, 3, none⟩ = some (.slice (some ⟨g, 0, none⟩) R.works.length ca) ∧ W.cell? ⟨g, k * 3 + 2, none⟩ = some (.slice osl x.writes.length csl) ∧ W.cell? ⟨w.heap.size, 0, none⟩ = some (.string rk) ∧ W.cell? ⟨w.heap.size, 1, none⟩ = some (.string rv) ∧ W.cell? ⟨w.heap.size, 2, none⟩ = some (.bool rg) := fun W hW => by
    refine ⟨hW.cell (p := ⟨R.b, 3, none⟩) ((h0.cell 3).trans (by rw [← hva]; rfl)) (fun h => h), ?_, hW.cell (p := ⟨w.heap.size, 0, none⟩) (cell_of_heap hbx 0) (fun h => h), hW.cell (p := ⟨w.heap.size, 1, none⟩) (cell_of_heap hbx 1) (fun h => h), hW.cell (p := ⟨w.heap.size, 2, none⟩) (cell_of_heap hbx 2) (fun h => h)⟩
    obtain ⟨d0, d1, d2⟩ := wk_at hrow hW hx
    rw [hosl] at d2
    exact d2
  have HHAS : Hid (∀ W, Keeps (fun _ => False) w0 W → Calls Tryz.prog 185 #[.slice osl x.writes.length csl, .string rk] W fun e w' => e = .returned (.tuple #[((hasL x.writes rk).getD RecB.zero).val, .bool (hasL x.writes rk).isSome]) ∧ Keeps (fun _ => False) W w') := fun W hW => by
    exact hasR_any (.slice osl x.writes.length csl) x.writes rk W (hosl ▸ Row.kept (h0.writes x hxm) hW (fun _ _ h => h)) hw
  have HPL : Hid (∀ W, Keeps (fun _ => False) w0 W → Calls Tryz.prog 90 #[.slice osl x.writes.length csl, .agg #[.string rk, .string rv, .bool rg]] W fun e w' => ∃ v', e = .returned v' ∧ RecsMade W w' v' (placedL x.writes ⟨rk, rv, rg⟩)) := fun W hW =>
    placed_any (.slice osl x.writes.length csl) x.writes ⟨rk, rv, rg⟩ W (hosl ▸ Row.kept (h0.writes x hxm) hW (fun _ _ h => h)) hw
  have HFZ : Hid (∀ W, Keeps (fun _ => False) w0 W → W.frozen? ⟨g, k * 3 + 2, none⟩ = false) := fun W hW => (hrow.kept hW (fun _ _ h => h)).frozenAt _
  have HEND : Hid (∀ (w3 : World) (v : Value), Keeps (fun _ => False) w0 w3 → RecsAt w3 v (placedL x.writes ⟨rk, rv, rg⟩) → (∀ q, v.ownBlock = some q → w0.heap.size ≤ q) → RCh 219 R (R.wrote k x v (placedL x.writes ⟨rk, rv, rg⟩)) w (w3.setCell ⟨g, k * 3 + 2, none⟩ v)) := fun w3 v hk3 hr3 ho3 =>
    RefAt.setWrites h (hk0.tr hk3 (fun _ h => h)) hva hx hr3 (fun q hq => Nat.le_trans hk0.size (ho3 q hq))
  obtain ⟨⟨zk, zv, zg⟩, hz⟩ : ∃ z, z = (hasL x.writes rk).getD RecB.zero := ⟨_, rfl⟩
  obtain ⟨old, ho⟩ : ∃ o, o = (hasL x.writes rk).isSome := ⟨_, rfl⟩
  rw [← hz, ← ho] at HHAS
  rw [← ho] at h30
  simp only [RecB.val] at HHAS
  have c3 : w.cell? ⟨R.b, 3, none⟩ = some (.slice (some ⟨g, 0, none⟩) R.works.length ca) := (h.cell 3).trans (by rw [← hva]; rfl)
  have c2 : w.cell? ⟨g, k * 3 + 2, none⟩ = some (.slice osl x.writes.length csl) := by
    have hrw := h.works
    rw [hva] at hrw
    obtain ⟨d0, d1, d2⟩ := wk_at hrw (Keeps.refl _ w) hx
    rw [hosl] at d2
    exact d2
  have l1 : R.b < w.heap.size := World.block_lt_of_cell? _ _ c3
  have l2 : g < w.heap.size := World.block_lt_of_cell? _ _ c2
  have ne1 : ¬ (w.heap.size + 1 = R.b) := by omega
  have ne2 : ¬ (w.heap.size + 1 = g) := by omega
  have ne3 : ¬ (R.b = w.heap.size + 1) := by omega
  have ne4 : ¬ (g = w.heap.size + 1) := by omega
  have HFA := hid hfacts
  have HK0 := hid hk0
  have hge : old = true ∨ (x.writes.length : Int) < 30 := h30.elim .inl (fun h => .inr (by omega))
  obtain ⟨LP, hLP⟩ : ∃ L, L = placedL x.writes ⟨rk, rv, rg⟩ := ⟨_, rfl⟩
  rw [← hLP] at HPL HEND ⊢
  unfold maxLen at hm
  clear hc h hf hk hv h0 hrow hosl hva hfacts hx hxm hbx hk0 h30 hb1 hb2 sa hz ho hLP
  subst hw0
  generalize x.writes.length = wl at *
  go_enter Tryz.func127, Tryz.ntmps127
  go_upto_region 8 with (first | (go_at_call 184; go_must (refine (HC.out).mono ?_; rintro e w1 ⟨rfl, rfl⟩; simp only [idxZ])) | (go_at_call 149; go_must (refine (HIK.out _).mono ?_; rintro e w1 ⟨rfl, rfl⟩)) | (go_at_call 150; go_must (refine (HIV.out _).mono ?_; rintro e w1 ⟨rfl, rfl⟩)))
  go_cut [11] (fun o wc => o = .bool old ∧ Keeps (fun _ => False) (w.alloc (.cells #[.string rk, .string rv, .bool rg] 34)) wc)
  case first =>
    go_region_held3 (fun W => W.cell? ⟨R.b, 3, none⟩ = some (.slice (some ⟨g, 0, none⟩) R.works.length ca) ∧ W.cell? ⟨g, k * 3 + 2, none⟩ = some (.slice osl wl csl) ∧ W.cell? ⟨w.heap.size, 0, none⟩ = some (.string rk)) (go_keep) (first | (go_at_call 185; refine (HHAS.out _ (Keeps.drew _ _)).mono ?_; rintro e w2 ⟨rfl, hk2⟩; have HK2 := hid ((Keeps.drew (fun _ => False) _).tr hk2 (fun _ h => h)); obtain ⟨q3, q2, q4, q5, q6⟩ := HFA.out _ HK2.out; have m1 := World.block_lt_of_cell? _ _ q3; have m2 := World.block_lt_of_cell? _ _ q2; have m3 := World.block_lt_of_cell? _ _ q4; clear hk2) | (go_at_call 185; refine (HHAS.out _ ((Keeps.refl _ _).al _).dr).mono ?_; rintro e w2 ⟨rfl, hk2⟩; have HK2 := hid (((Keeps.refl (fun _ => False) _).al _).dr.tr hk2 (fun _ h => h)); obtain ⟨n0, n1, n2, o0, o1, o2⟩ := three_cells (box2 hk2); obtain ⟨q3, q2, q4, q5, q6⟩ := HFA.out _ HK2.out; have m1 := World.block_lt_of_cell? _ _ q3; have m2 := World.block_lt_of_cell? _ _ q2; have m3 := World.block_lt_of_cell? _ _ q4; clear hk2))
    all_goals
      go_wp2_with fail
      go_meet
      first
      | exact ⟨rfl, HK2.out.al _⟩
      | exact ⟨rfl, ((HK2.out.st (.inl (by simp)) _).st (.inl (by simp)) _).st (.inl (by simp)) _⟩
  case rest =>
    obtain ⟨rfl, hkc⟩ := hcut
    obtain ⟨q3, q2, q4, q5, q6⟩ := HFA.out _ hkc
    have HKC := hid hkc
    have m1 := World.block_lt_of_cell? _ _ q3
    have m2 := World.block_lt_of_cell? _ _ q2
    have m3 := World.block_lt_of_cell? _ _ q4
    clear hkc c3 c2
    cases old
    case' false => have hlt := hge.resolve_left (by decide)
    all_goals
      clear hge
      go_wp2_with fail
      go_region_with (go_at_call 90; go_must (refine (HPL.out _ HKC.out.dr).mono ?_; rintro e w3 ⟨v', rfl, hM⟩; obtain ⟨ov, cv, rfl, -, -⟩ := hM.row.form; have HM := hid hM; have HK3 := hid (HKC.out.dr.tr hM.keep (fun _ h => h)); obtain ⟨t3, t2, t4, t5, t6⟩ := HFA.out _ HK3.out; have t7 := HFZ.out _ HK3.out; clear hM))
      all_goals
        go_wp2
        go_ret
        exact ⟨rfl, _, HEND.out _ _ HK3.out HM.out.row (fun q hq => Nat.le_trans HKC.out.dr.size (HM.out.own q hq))⟩

end Go.Proofs.YtfcocbcihhdbkaaGreatDoor
