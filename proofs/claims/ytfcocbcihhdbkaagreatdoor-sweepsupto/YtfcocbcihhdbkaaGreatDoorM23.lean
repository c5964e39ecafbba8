import Derived.Test.YtfcocbcihhdbkaaGreatDoorM22
import Derived.Deep.DeepCutAuto
import Derived.Deep.CutBlock

/- The document's store: Write, of a text that is one. -/
namespace Go.Proofs.YtfcocbcihhdbkaaGreatDoor
open Go.RowKit Go.Shelf

/-- the second box, behind a call -/
theorem box2 {w w2 : World} {o : Obj} {x y z : Value} {e : TypeId} (h : Keeps (fun _ => False) ((w.alloc o).alloc (.cells #[x, y, z] e)).drew w2) : w2.heap[w.heap.size + 1]? = some (.cells #[x, y, z] e (0, 0)) := by
  rw [h.block (w.heap.size + 1) (by show _ < ((w.alloc o).alloc _).heap.size; simp) (fun h => h)]
  have := heap_new (w.alloc o) (.cells #[x, y, z] e)
  show ((w.alloc o).alloc (.cells #[x, y, z] e)).heap[w.heap.size + 1]? = _
  simpa using this

set_option maxRecDepth 100000 in
set_option maxHeartbeats 4000000 in
theorem writeR_full (R : RRep) (id : Int) (r : RecB) (k : Nat) (x : RWk) (w : World) (h : RefAt w R) (hl : R.works.length < 100000000000) (hf : findL R.works id = some k) (hx : R.works[k]? = some x) (hk : r.key.size ≤ maxLen) (hv : r.value.size ≤ maxLen) (hb1 : keyB r.key = true) (hb2 : valB r.value = true) (hw : x.writes.length < 1000000000000)
    (hn : hasL x.writes r.key = none) (h30 : 30 ≤ x.writes.length) :
    Calls Tryz.prog 127 #[.pointer (some ⟨R.b, 0, none⟩), .int .i64 id, r.val] w fun e w' => e = .returned (.int .i64 3) ∧ Keeps (fun _ => False) w w' := by
  obtain ⟨rk, rv, rg⟩ := r
  simp only [RecB.val]
  simp only at hk hv hb1 hb2 hn
  obtain ⟨w0, hw0⟩ : ∃ w0, w0 = w.alloc (.cells #[.string rk, .string rv, .bool rg] 34) := ⟨_, rfl⟩
  have hk0 : Keeps (fun _ => False) w w0 := hw0 ▸ Keeps.alloc _ _ _
  have h0 : RefAt w0 R := h.kept hk0 (fun _ _ h => h)
  have hbx : w0.heap[w.heap.size]? = some (.cells #[.string rk, .string rv, .bool rg] 34 (0, 0)) := hw0 ▸ heap_new w _
  have hc := findR_any R id w0 h0 (by omega)
  rw [hf] at hc
  have HC := hid hc
  have HIK : Hid (∀ W, Calls Tryz.prog 149 #[.string rk] W fun e w' => e = .returned (.bool (keyB rk)) ∧ w' = W) := fun W => isKeyR_any rk W hk
  have HIV : Hid (∀ W, Calls Tryz.prog 150 #[.string rv] W fun e w' => e = .returned (.bool (valB rv)) ∧ w' = W) := fun W => isValueR_any rv W hv
  rw [hb1] at HIK
  rw [hb2] at HIV
  have hnn : ¬ ((k : Int) < 0) := by omega
  have hxm : x ∈ R.works := List.mem_of_getElem? hx
  have hkl : k < R.works.length := (List.getElem?_eq_some_iff.1 hx).1
  obtain ⟨oa, ca, hva, hm, sa⟩ := h0.works.form
  obtain ⟨g, rfl⟩ := sa (by omega)
  have HH := hid h0
  have HVA := hid hva
  have hrow := h0.works
  rw [hva] at hrow
  obtain ⟨osl, csl, hosl, -, -⟩ := Row.form (h0.writes x hxm)
  have hfacts : ∀ W, Keeps (fun _ => False) w0 W → W.cell? ⟨R.b, 3, none⟩ = some (.slice (some ⟨g, 0, none⟩) R.works.length ca) ∧ W.cell? ⟨g, k * 3 + 2, none⟩ = some (.slice osl x.writes.length csl) ∧ W.cell? ⟨w.heap.size, 0, none⟩ = some (.string rk) ∧ W.cell? ⟨w.heap.size, 1, none⟩ = some (.string rv) ∧ W.cell? ⟨w.heap.size, 2, none⟩ = some (.bool rg) := fun W hW => by
    refine ⟨hW.cell (p := ⟨R.b, 3, none⟩) ((h0.cell 3).trans (by rw [← hva]; rfl)) (fun h => h), ?_, hW.cell (p := ⟨w.heap.size, 0, none⟩) (cell_of_heap hbx 0) (fun h => h), hW.cell (p := ⟨w.heap.size, 1, none⟩) (cell_of_heap hbx 1) (fun h => h), hW.cell (p := ⟨w.heap.size, 2, none⟩) (cell_of_heap hbx 2) (fun h => h)⟩
    obtain ⟨d0, d1, d2⟩ := wk_at hrow hW hx
    rw [hosl] at d2
    exact d2
  have HHAS : Hid (∀ W, Keeps (fun _ => False) w0 W → Calls Tryz.prog 185 #[.slice osl x.writes.length csl, .string rk] W fun e w' => e = .returned (.tuple #[RecB.zero.val, .bool false]) ∧ Keeps (fun _ => False) W w') := fun W hW => by
    have := hasR_any (.slice osl x.writes.length csl) x.writes rk W (hosl ▸ Row.kept (h0.writes x hxm) hW (fun _ _ h => h)) hw
    rw [hn] at this
    exact this
  simp only [RecB.val, RecB.zero] at HHAS
  have c3 : w.cell? ⟨R.b, 3, none⟩ = some (.slice (some ⟨g, 0, none⟩) R.works.length ca) := (h.cell 3).trans (by rw [← hva]; rfl)
  have c2 : w.cell? ⟨g, k * 3 + 2, none⟩ = some (.slice osl x.writes.length csl) := by
    have hrw := h.works
    rw [hva] at hrw
    obtain ⟨d0, d1, d2⟩ := wk_at hrw (Keeps.refl _ w) hx
    rw [hosl] at d2
    exact d2
  have l1 : R.b < w.heap.size := World.block_lt_of_cell? _ _ c3
  have l2 : g < w.heap.size := World.block_lt_of_cell? _ _ c2
  have ne1 : ¬ (w.heap.size + 1 = R.b) := by omega
  have ne2 : ¬ (w.heap.size + 1 = g) := by omega
  have ne3 : ¬ (R.b = w.heap.size + 1) := by omega
  have ne4 : ¬ (g = w.heap.size + 1) := by omega
  have HFA := hid hfacts
  have HK0 := hid hk0
  have hge : (30 : Int) ≤ x.writes.length := by omega
  unfold maxLen at hm
  clear hc h hf hk hv h0 hrow hosl hva hfacts hx hxm hbx hk0 hn h30 hb1 hb2 sa
  subst hw0
  generalize x.writes.length = wl at *
  go_enter Tryz.func127, Tryz.ntmps127
  go_wp2_with (first | (go_at_call 184; go_must (refine (HC.out).mono ?_; rintro e w1 ⟨rfl, rfl⟩; simp only [idxZ])) | (go_at_call 149; go_must (refine (HIK.out _).mono ?_; rintro e w1 ⟨rfl, rfl⟩)) | (go_at_call 150; go_must (refine (HIV.out _).mono ?_; rintro e w1 ⟨rfl, rfl⟩)))
  go_region_held3 (fun W => W.cell? ⟨R.b, 3, none⟩ = some (.slice (some ⟨g, 0, none⟩) R.works.length ca) ∧ W.cell? ⟨g, k * 3 + 2, none⟩ = some (.slice osl wl csl) ∧ W.cell? ⟨w.heap.size, 0, none⟩ = some (.string rk)) (go_keep) (first | (go_at_call 185; refine (HHAS.out _ (Keeps.drew _ _)).mono ?_; rintro e w2 ⟨rfl, hk2⟩; have HK2 := hid ((Keeps.drew (fun _ => False) _).tr hk2 (fun _ h => h)); obtain ⟨q3, q2, q4, q5, q6⟩ := HFA.out _ HK2.out; have m1 := World.block_lt_of_cell? _ _ q3; have m2 := World.block_lt_of_cell? _ _ q2; have m3 := World.block_lt_of_cell? _ _ q4; clear hk2) | (go_at_call 185; refine (HHAS.out _ ((Keeps.refl _ _).al _).dr).mono ?_; rintro e w2 ⟨rfl, hk2⟩; have HK2 := hid (((Keeps.refl (fun _ => False) _).al _).dr.tr hk2 (fun _ h => h)); obtain ⟨n0, n1, n2, o0, o1, o2⟩ := three_cells (box2 hk2); obtain ⟨q3, q2, q4, q5, q6⟩ := HFA.out _ HK2.out; have m1 := World.block_lt_of_cell? _ _ q3; have m2 := World.block_lt_of_cell? _ _ q2; have m3 := World.block_lt_of_cell? _ _ q4; clear hk2))
  all_goals
    go_wp2
    go_ret
    first
    | exact ⟨rfl, (HK0.out.tr HK2.out (fun _ h => h)).al _⟩
    | (have hz := Nat.le_refl (w.heap.size + 1); exact ⟨rfl, (((HK0.out.tr HK2.out (fun _ h => h)).st (.inl (Nat.le_succ _)) _).st (.inl (Nat.le_succ _)) _).st (.inl (Nat.le_succ _)) _⟩)

end Go.Proofs.YtfcocbcihhdbkaaGreatDoor

/- The document's store: clash. -/
namespace Go.Proofs.YtfcocbcihhdbkaaGreatDoor
open Go.RowKit Go.Shelf

/-- has a state behind a work's beginning written a key of its? -/
def clashL (all : List RVer) (began : Int) (l : List RecB) : Bool := all.any fun v => (hasL l v.r.key).isSome && decide (began < v.state)

theorem Keeps.drN {S : Nat → Prop} {a w : World} (h : Keeps S a w) (q : Nat) : Keeps S a (w.drewN q) := h.tr (T := fun _ => False) ⟨rfl, rfl, rfl, Nat.le_refl _, fun _ _ _ => rfl⟩ (fun _ h => h.elim)

theorem box1 {w w2 : World} {x y z : Value} {e : TypeId} (h : Keeps (fun _ => False) (w.alloc (.cells #[x, y, z] e)).drew w2) : w2.heap[w.heap.size]? = some (.cells #[x, y, z] e (0, 0)) := by
  rw [h.block w.heap.size (by show _ < (w.alloc _).heap.size; simp) (fun h => h)]
  exact heap_new w (.cells #[x, y, z] e)

set_option maxRecDepth 100000 in
set_option maxHeartbeats 4000000 in
theorem clash_any (R : RRep) (id began : Int) (sl : Value) (l : List RecB) (w : World) (h : RefAt w R) (ha : R.all.length < 100000000000) (hv : RecsAt w sl l) (hl : l.length < 100000000000) :
    Calls Tryz.prog 188 #[.pointer (some ⟨R.b, 0, none⟩), .agg #[.int .i64 id, .int .i64 began, sl]] w fun e w' => e = .returned (.bool (clashL R.all began l)) ∧ Keeps (fun _ => False) w w' := by
  obtain ⟨osl, csl, rfl, -, -⟩ := Row.form hv
  obtain ⟨w0, hw0⟩ : ∃ w0, w0 = w.alloc (.cells #[.int .i64 id, .int .i64 began, .slice osl l.length csl] 219) := ⟨_, rfl⟩
  have hk0 : Keeps (fun _ => False) w w0 := hw0 ▸ Keeps.alloc _ _ _
  have h0 : RefAt w0 R := h.kept hk0 (fun _ _ h => h)
  have hbx : w0.heap[w.heap.size]? = some (.cells #[.int .i64 id, .int .i64 began, .slice osl l.length csl] 219 (0, 0)) := hw0 ▸ heap_new w _
  obtain ⟨oa, ca, hva, hm, sa⟩ := h0.all.form
  have hrow := h0.all
  rw [hva] at hrow
  have HR := hid hrow
  have SA := hid sa
  have hfacts : ∀ W, Keeps (fun _ => False) w0 W → W.cell? ⟨R.b, 0, none⟩ = some (.slice oa R.all.length ca) ∧ W.cell? ⟨w.heap.size, 1, none⟩ = some (.int .i64 began) ∧ W.cell? ⟨w.heap.size, 2, none⟩ = some (.slice osl l.length csl) := fun W hW =>
    ⟨hW.cell (p := ⟨R.b, 0, none⟩) ((h0.cell 0).trans (by rw [← hva]; rfl)) (fun h => h), hW.cell (p := ⟨w.heap.size, 1, none⟩) (cell_of_heap hbx 1) (fun h => h), hW.cell (p := ⟨w.heap.size, 2, none⟩) (cell_of_heap hbx 2) (fun h => h)⟩
  have HHAS : Hid (∀ (key : ByteArray) W, Keeps (fun _ => False) w0 W → Calls Tryz.prog 185 #[.slice osl l.length csl, .string key] W fun e w' => e = .returned (.tuple #[((hasL l key).getD RecB.zero).val, .bool (hasL l key).isSome]) ∧ Keeps (fun _ => False) W w') := fun key W hW =>
    hasR_any (.slice osl l.length csl) l key W (Row.kept (Row.kept hv hk0 (fun _ _ h => h)) hW (fun _ _ h => h)) (by omega)
  have HFA := hid hfacts
  have HK0 := hid hk0
  have hz0 := hk0.size
  have hbl := h.blt
  have hsz0 : w.heap.size < w0.heap.size := by rw [hw0]; simp
  have HW0 := hid hw0
  unfold maxLen at hm
  obtain ⟨al, hal⟩ : ∃ al, al = R.all := ⟨_, rfl⟩
  rw [← hal] at HR SA HFA hm ha ⊢
  generalize hll : l.length = ll at *
  clear h h0 hrow hva sa hfacts hbx hk0 hv hal hw0
  go_enter Tryz.func188, Tryz.ntmps188
  go_wp2_with fail
  rw [← HW0.out]
  go_loopw [5] (fun i wr => ∃ j : Nat, j ≤ al.length ∧ i = .int .i64 j ∧ Keeps (fun _ => False) w0 wr ∧ clashL (al.take j) began l = false) (fun i _ => al.length - (intOf i).toNat)
  case atStart => exact ⟨0, Nat.zero_le _, rfl, Keeps.refl _ _, rfl⟩
  case round =>
    obtain ⟨j, hj, rfl, hkr, hcl⟩ := hrel
    obtain ⟨f0, f1, f2⟩ := HFA.out _ hkr
    have HKR := hid hkr
    have HCL := hid hcl
    have hszr := hkr.size
    clear hkr hcl
    by_cases hlt : j < al.length
    · obtain ⟨g, rfl⟩ := SA.out (by omega)
      obtain ⟨x, hx⟩ : ∃ x, al[j]? = some x := ⟨al[j], List.getElem?_eq_getElem hlt⟩
      have hver : ∀ W, Keeps (fun _ => False) w0 W → W.cell? ⟨g, j * 5, none⟩ = some (.int .i64 x.state) ∧ W.cell? ⟨g, j * 5 + 1, none⟩ = some (.string x.r.key) := fun W hW => by
        obtain ⟨a1, a2, -⟩ := ver_at HR.out hW hx
        exact ⟨a1, a2⟩
      obtain ⟨e0, e1⟩ := hver _ HKR.out
      have HVER := hid hver
      have HNX : Hid (clashL (al.take (j + 1)) began l = ((hasL l x.r.key).isSome && decide (began < x.state))) := by
        show _ = _
        have := HCL.out
        unfold clashL at this ⊢
        rw [take_next hx, List.any_append, this]
        simp
      have HFULL : Hid (clashL (al.take (j + 1)) began l = true → clashL al began l = true) := fun h => by
        unfold clashL at h ⊢
        rw [List.any_eq_true] at h ⊢
        obtain ⟨v, h1, h2⟩ := h
        exact ⟨v, List.mem_of_mem_take h1, h2⟩
      have HH := hid (HHAS.out x.r.key)
      obtain ⟨⟨zk, zv, zg⟩, hz⟩ : ∃ z, z = (hasL l x.r.key).getD RecB.zero := ⟨_, rfl⟩
      obtain ⟨is, his⟩ : ∃ o, o = (hasL l x.r.key).isSome := ⟨_, rfl⟩
      rw [← hz, ← his] at HH
      rw [← his] at HNX
      simp only [RecB.val] at HH
      generalize x.r.key = xk at *
      generalize x.state = xs at *
      clear hx hver hz his
      have l1 : R.b < wr.heap.size := World.block_lt_of_cell? _ _ f0
      have l2 : g < wr.heap.size := World.block_lt_of_cell? _ _ e0
      have l3 : w.heap.size < wr.heap.size := World.block_lt_of_cell? _ _ f1
      have ne1 : ¬ (wr.heap.size = R.b) := by omega
      have ne2 : ¬ (wr.heap.size = g) := by omega
      have ne3 : ¬ (wr.heap.size = w.heap.size) := by omega
      have ne4 : ¬ (R.b = wr.heap.size) := by omega
      have ne5 : ¬ (g = wr.heap.size) := by omega
      have ne6 : ¬ (w.heap.size = wr.heap.size) := by omega
      go_upto_region 4 with fail
      go_cut [7] (fun o wc => o = .bool is ∧ Keeps (fun _ => False) w0 wc)
      case first =>
        go_region_held3 (fun W => W.cell? ⟨R.b, 0, none⟩ = some (.slice (some ⟨g, 0, none⟩) al.length ca) ∧ W.cell? ⟨g, j * 5 + 1, none⟩ = some (.string xk) ∧ W.cell? ⟨w.heap.size, 2, none⟩ = some (.slice osl ll csl)) (go_keep) (first | (go_at_call 185; refine (HH.out _ HKR.out.dr).mono ?_; rintro e w2 ⟨rfl, hk2⟩; have HK2 := hid (HKR.out.dr.tr hk2 (fun _ h => h)); obtain ⟨q0, q1, q2⟩ := HFA.out _ HK2.out; obtain ⟨q3, q4⟩ := HVER.out _ HK2.out; have m1 := World.block_lt_of_cell? _ _ q0; have m2 := World.block_lt_of_cell? _ _ q2; have m3 := World.block_lt_of_cell? _ _ q4; clear hk2) | (go_at_call 185; refine (HH.out _ (HKR.out.al _).dr).mono ?_; rintro e w2 ⟨rfl, hk2⟩; have HK2 := hid ((HKR.out.al _).dr.tr hk2 (fun _ h => h)); obtain ⟨n0, n1, n2, o0, o1, o2⟩ := three_cells (box1 hk2); obtain ⟨q0, q1, q2⟩ := HFA.out _ HK2.out; obtain ⟨q3, q4⟩ := HVER.out _ HK2.out; have m1 := World.block_lt_of_cell? _ _ q0; have m2 := World.block_lt_of_cell? _ _ q2; have m3 := World.block_lt_of_cell? _ _ q4; clear hk2))
        all_goals
          go_wp2_with fail
          go_meet
          first
          | exact ⟨rfl, HK2.out.al _⟩
          | exact ⟨rfl, ((HK2.out.st (.inl (by simpa using hszr)) _).st (.inl (by simpa using hszr)) _).st (.inl (by simpa using hszr)) _⟩
      case rest =>
        obtain ⟨rfl, hkc⟩ := hcut
        obtain ⟨q0, q1, q2⟩ := HFA.out _ hkc
        obtain ⟨q3, q4⟩ := HVER.out _ hkc
        have HKC := hid hkc
        clear hkc
        cases is with
        | false =>
          have HN : Hid (clashL (al.take (j + 1)) began l = false) := by show _ = _; rw [HNX.out]; rfl
          go_wp2_with fail
          go_quiet (fail)
          go_wp2
          exact ⟨⟨j + 1, by omega, by go_num, (HKC.out.drN _), HN.out⟩, by simp only [intOf]; omega⟩
        | true =>
          by_cases hs : began < xs
          · have HN : Hid (clashL al began l = true) := HFULL.out (by rw [HNX.out]; simp [hs])
            go_wp2_with fail
            go_quiet (fail)
            go_wp2
            go_ret
            exact ⟨ret_bool HN.out.symm, HK0.out.tr (HKC.out.drN _) (fun _ h => h)⟩
          · have HN : Hid (clashL (al.take (j + 1)) began l = false) := by show _ = _; rw [HNX.out]; simp [hs]
            have hd : decide (began < xs) = false := decide_eq_false hs
            go_wp2_with fail
            go_quiet (fail)
            go_wp2
            exact ⟨⟨j + 1, by omega, by go_num, (HKC.out.drN _), HN.out⟩, by simp only [intOf]; omega⟩
    · have HE : Hid (clashL al began l = false) := by show _ = _; have := HCL.out; rw [List.take_of_length_le (by omega)] at this; exact this
      go_wp2
      go_ret
      exact ⟨ret_bool HE.out.symm, HK0.out.tr HKR.out (fun _ h => h)⟩

end Go.Proofs.YtfcocbcihhdbkaaGreatDoor

/- The document's store: Commit. -/
namespace Go.Proofs.YtfcocbcihhdbkaaGreatDoor
open Go.RowKit Go.Shelf

theorem RefAt.setWorksCh {w W : World} {R : RRep} {v : Value} {l : List RWk} (h : RefAt w R) (hk : Keeps (fun _ => False) w W) (hr : Row W 219 3 v l.length (l.flatMap RWk.cells)) (hown : ∀ g, v.ownBlock = some g → w.heap.size ≤ g) (hl : ∀ x ∈ l, x ∈ R.works) :
    RCh 219 R { R with vw := v, works := l } w (W.setCell ⟨R.b, 3, none⟩ v) := by
  obtain ⟨h1, h2, -, h4⟩ := h.setWorks hk hr hown hl
  exact ⟨h1, h2, (hk.mono (fun _ _ h => h.elim)).tr (Keeps.setCell _ _ _) (fun _ e => .inl e), h4⟩

set_option maxRecDepth 100000 in
set_option maxHeartbeats 1000000 in
theorem over_ch (R : RRep) (k : Nat) (w : World) (h : RefAt w R) (hl : R.works.length < 100000000000) (hk : k < R.works.length) :
    Calls Tryz.prog 187 #[.pointer (some ⟨R.b, 0, none⟩), .int .i64 k] w fun e w' => e = .returned (.tuple #[]) ∧ ∃ v, RCh 219 R { R with vw := v, works := R.works.eraseIdx k } w w' := by
  obtain ⟨oa, ca, hva, hm, sa⟩ := h.works.form
  obtain ⟨g, rfl⟩ := sa (by omega)
  have c3 : w.cell? ⟨R.b, 3, none⟩ = some (.slice (some ⟨g, 0, none⟩) R.works.length ca) := (h.cell 3).trans (by rw [← hva]; rfl)
  have hrow := h.works
  rw [hva] at hrow
  have HR := hid hrow
  have HH := hid h
  have hblt := h.blt
  have hform : ∀ x ∈ R.works, ∃ a n cap, x.sl = .slice a n cap := fun x hx => by
    obtain ⟨a, cap, e, _⟩ := Row.form (h.writes x hx)
    exact ⟨a, _, cap, e⟩
  have HFO := hid hform
  obtain ⟨i0, hi, hz0, hz1, hz2⟩ := info_parts Tryz.infoWork
  unfold maxLen at hm
  obtain ⟨l, hle⟩ : ∃ l, l = R.works := ⟨_, rfl⟩
  have HLE := hid hle
  rw [← hle] at c3 HR HFO hm hl hk
  have HL := hid hl
  clear h hva hle sa hrow hform
  have fz : ∀ W, Keeps (fun _ => False) w W → W.frozen? ⟨R.b, 3, none⟩ = false := fun W hW => (HH.out.kept hW (fun _ _ h => h)).frozen 3
  have HFZ := hid fz
  clear fz
  go_enter Tryz.func187, Tryz.ntmps187
  go_wp2_with fail
  go_loopw [4, 5] (fun v i wr => ∃ j : Nat, j ≤ l.length ∧ i = .int .i64 j ∧ Made 219 3 RWk.cells w wr v ((l.take j).eraseIdx k)) (fun _ i _ => l.length - (intOf i).toNat)
  case atStart => exact ⟨0, Nat.zero_le _, rfl, Made.nil (Keeps.refl _ _)⟩
  case round =>
    obtain ⟨j, hj, rfl, hM⟩ := hrel
    obtain ⟨ob, cb, rfl, -, -⟩ := hM.row.form
    have d3 := hM.keep.cell (p := ⟨R.b, 3, none⟩) c3 (fun h => h)
    have HM := hid hM
    clear hM
    by_cases hlt : j < l.length
    · obtain ⟨y, hy⟩ : ∃ y, l[j]? = some y := ⟨l[j], List.getElem?_eq_getElem hlt⟩
      obtain ⟨e0, e1, e2⟩ := wk_at HR.out HM.out.keep hy
      obtain ⟨ya, yn, yc, hys⟩ := HFO.out y (List.mem_of_getElem? hy)
      have hte := take_next hy
      have hol : ((l.take j).eraseIdx k).length ≤ j := Nat.le_trans (List.length_eraseIdx_le _ _) (List.length_take_le _ _)
      have hjl : (l.take j).length = j := by rw [List.length_take]; omega
      by_cases hjk : j = k
      · subst hjk
        have HS : Hid ((l.take (j + 1)).eraseIdx j = (l.take j).eraseIdx j) := by
          show _ = _
          rw [hte, List.eraseIdx_append_of_length_le (by omega), hjl, List.eraseIdx_of_length_le (l := l.take j) (by omega)]
          simp
        clear hte hy
        go_wp2
        exact ⟨⟨j + 1, by omega, by go_num, by rw [HS.out]; exact HM.out⟩, by simp only [intOf]; omega⟩
      · have HS : Hid ((l.take (j + 1)).eraseIdx k = (l.take j).eraseIdx k ++ [y]) := by
          show _ = _
          rw [hte]
          rcases Nat.lt_or_ge k j with h1 | h1
          · rw [List.eraseIdx_append_of_lt_length (by omega)]
          · rw [List.eraseIdx_append_of_length_le (by omega), hjl, List.eraseIdx_of_length_le (l := l.take j) (by omega), List.eraseIdx_of_length_le (by simp; omega)]
        have hne : ((j : Int) == (k : Int)) = false := beq_eq_false_iff_ne.2 (by omega)
        generalize (l.take j).eraseIdx k = out at *
        obtain ⟨yi, yb, ysl, yws⟩ := y
        simp only at hys e0 e1 e2
        subst hys
        clear hte hy
        go_wp2_with (first | (at_builtin; go_must (refine wpList_append_row _ rfl _ _ 76 rfl 219 i0 _ 3 40 Tryz.underlying76 hi hz0 hz1 hz2 rfl (.slice ob out.length cb) out.length _ rfl (HM.out.row.kept (Keeps.alloc (fun _ => False) wr _) (fun _ _ h => h)) ⟨wr.heap.size, 0, none⟩ 1 1 [.int .i64 yi, .int .i64 yb, .slice ya yn yc] rfl rfl (news_arr _ #[.int .i64 yi, .int .i64 yb, .slice ya yn yc] _) (by simp [Value.oneCell']) (by have := HL.out; unfold maxLen; omega) (by have := HL.out; omega) ?_; intro v' w1 hown' hgrow _ hat; obtain ⟨g1, c1, rfl⟩ := hown'.succ; have HN := hid (HM.out.push (a := ⟨yi, yb, .slice ya yn yc, yws⟩) (Keeps.alloc (fun _ => False) wr _) hown' hgrow hat); clear hown' hgrow hat)) | fail)
        exact ⟨⟨j + 1, by omega, by go_num, by rw [HS.out]; exact HN.out.slice (by simp)⟩, by simp only [intOf]; omega⟩
    · have e : l.eraseIdx k = (l.take j).eraseIdx k := by rw [List.take_of_length_le (by omega)]
      have HE := hid e
      have f3 := HFZ.out wr HM.out.keep
      clear e
      go_wp2
      go_end0
      refine ⟨rfl, .slice ob ((l.take j).eraseIdx k).length cb, ?_⟩
      have := HH.out.setWorksCh HM.out.keep HM.out.row HM.out.own (fun x hx => by
        rw [← HE.out, HLE.out] at hx
        exact List.mem_of_mem_eraseIdx hx)
      have e2 : (l.take j).eraseIdx k = R.works.eraseIdx k := by rw [← HE.out, HLE.out]
      rw [e2] at this ⊢
      exact this


theorem RefAt.setNow {w : World} {R : RRep} {n : Int} {e : TypeId} (h : RefAt w R) : RCh e R { R with now := n } w (w.setCell ⟨R.b, 1, none⟩ (.int .i64 n)) := by
  have hk : Keeps (fun k => k = R.b ∨ TypeIs w k 79) w (w.setCell ⟨R.b, 1, none⟩ (.int .i64 n)) := (Keeps.setCell _ _ _).mono (fun _ _ h => .inl h)
  obtain ⟨r1, r2, r3, r4, r5, r6⟩ := h.rows _ hk
  refine ⟨⟨?_, r1 (by decide), r2 (by decide), r3 (by decide), r4 (by decide), r5 (by decide), r6 (by decide)⟩, rfl, (Keeps.setCell _ _ _).mono (fun _ _ h => .inl h), fun k hk => .inl hk⟩
  rw [heap_setCell_same h.top]
  rfl

/-- records that lie outside are as they were -/
theorem RCh.recs {e : TypeId} {R R' : RRep} {w w' : World} {v : Value} {l : List RecB} (h : RCh e R R' w w') (hR : RefAt w R) (hr : RecsAt w v l) (he : 34 ≠ e) : RecsAt w' v l :=
  Row.kept hr h.2.2.1 (fun k hk hc => by
    have ht := Row.typeIs hr hk
    rcases hc with rfl | hc
    · exact ht.ne (e' := 79) (by decide) ⟨_, hR.top⟩
    · exact ht.ne he hc.2)

theorem commitR_none (R : RRep) (id : Int) (w : World) (h : RefAt w R) (hl : R.works.length < 100000000000) (hf : findL R.works id = none) :
    Calls Tryz.prog 128 #[.pointer (some ⟨R.b, 0, none⟩), .int .i64 id] w fun e w' => e = .returned (.tuple #[.int .i64 0, .int .i64 1]) ∧ w' = w := by
  have hc := findR_any R id w h (by omega)
  rw [hf] at hc
  have HC := hid hc
  clear hc h hf
  go_enter Tryz.func128, Tryz.ntmps128
  go_wp2_with (go_at_call 184; go_must (refine (HC.out).mono ?_; rintro e w1 ⟨rfl, rfl⟩; simp only [idxZ]))
  go_ret2
  exact ⟨rfl, rfl⟩

/-- what Commit leaves of the works -/
def RRep.overed (R : RRep) (k : Nat) (v : Value) : RRep := { R with vw := v, works := R.works.eraseIdx k }
/-- and of all, if it is done -/
def RRep.done (R : RRep) (k : Nat) (x : RWk) (v va : Value) : RRep := { R with vw := v, works := R.works.eraseIdx k, now := R.now + 1, va := va, all := R.all ++ putsL x.writes (R.now + 1) }

def commitR (R : RRep) (x : RWk) : Int × Int := if x.writes.length = 0 then (x.began, 0) else if 1000000000 ≤ R.now then (0, 3) else if clashL R.all x.began x.writes = true then (0, 4) else (R.now + 1, 0)

def CommitRPost (R : RRep) (k : Nat) (x : RWk) (w w' : World) : Prop :=
  if x.writes.length = 0 then ∃ v, RAfter R (R.overed k v) w w' else if 1000000000 ≤ R.now then RAfter R R w w' else if clashL R.all x.began x.writes = true then ∃ v, RAfter R (R.overed k v) w w' else ∃ v va, RAfter R (R.done k x v va) w w'

set_option maxRecDepth 100000 in
set_option maxHeartbeats 4000000 in
theorem commitR_some (R : RRep) (id : Int) (k : Nat) (x : RWk) (w : World) (h : RefAt w R) (hl : R.works.length < 100000000000) (hf : findL R.works id = some k) (hx : R.works[k]? = some x) (ha : R.all.length < 100000000000) (hw : x.writes.length < 100000000000) (hn : 0 ≤ R.now) :
    Calls Tryz.prog 128 #[.pointer (some ⟨R.b, 0, none⟩), .int .i64 id] w fun e w' => e = .returned (.tuple #[.int .i64 (commitR R x).1, .int .i64 (commitR R x).2]) ∧ CommitRPost R k x w w' := by
  have hc := findR_any R id w h (by omega)
  rw [hf] at hc
  have HC := hid hc
  simp only [idxZ] at HC
  have hnn : ¬ ((k : Int) < 0) := by omega
  have hxm : x ∈ R.works := List.mem_of_getElem? hx
  have hkl : k < R.works.length := (List.getElem?_eq_some_iff.1 hx).1
  obtain ⟨oa, ca, hva, hm, sa⟩ := h.works.form
  obtain ⟨g, rfl⟩ := sa (by omega)
  have c3 : w.cell? ⟨R.b, 3, none⟩ = some (.slice (some ⟨g, 0, none⟩) R.works.length ca) := (h.cell 3).trans (by rw [← hva]; rfl)
  have c1 : w.cell? ⟨R.b, 1, none⟩ = some (.int .i64 R.now) := h.cell 1
  have hrow := h.works
  rw [hva] at hrow
  obtain ⟨d0, d1, d2⟩ := wk_at hrow (Keeps.refl _ w) hx
  obtain ⟨osl, csl, hosl, -, -⟩ := Row.form (h.writes x hxm)
  have hwr := h.writes x hxm
  rw [hosl] at hwr d2
  have HWR := hid hwr
  have HH := hid h
  have l1 := h.blt
  have l2 : g < w.heap.size := World.block_lt_of_cell? _ _ d2
  unfold maxLen at hm
  have HOV : Hid (∀ W, Keeps (fun _ => False) w W → Calls Tryz.prog 187 #[.pointer (some ⟨R.b, 0, none⟩), .int .i64 k] W fun e w' => e = .returned (.tuple #[]) ∧ ∃ v, RCh 219 R (R.overed k v) W w') := fun W hW => over_ch R k W (h.kept hW (fun _ _ h => h)) hl hkl
  obtain ⟨xi, xb, xsl, xw⟩ := x
  simp only at hosl hw HWR d0 d1 d2
  subst hosl
  clear hc hf h hva hrow hwr hx hxm sa
  have HLT := hid (fun q hq => (HH.out.lt q hq))
  have HBOX : Hid (∀ (w1 : World) (R1 : RRep), RCh 219 R R1 (w.alloc (.cells #[.int .i64 xi, .int .i64 xb, .slice osl xw.length csl] 219)) w1 → w1.heap[w.heap.size]? = some (.cells #[.int .i64 xi, .int .i64 xb, .slice osl xw.length csl] 219 (0, 0))) := fun w1 R1 hc => by
    rw [hc.2.2.1.block w.heap.size (by simp) (fun h => by
      rcases h with e | ⟨e, -⟩
      · omega
      · exact absurd (HLT.out _ e) (by omega))]
    exact heap_new w _
  by_cases h0 : xw.length = 0
  · have e1 : commitR R ⟨xi, xb, .slice osl xw.length csl, xw⟩ = (xb, 0) := if_pos h0
    have HP : Hid (∀ w1 v, RCh 219 R (R.overed k v) (w.alloc (.cells #[.int .i64 xi, .int .i64 xb, .slice osl xw.length csl] 219)) w1 → CommitRPost R k ⟨xi, xb, .slice osl xw.length csl, xw⟩ w w1) := fun w1 v hc => by
      unfold CommitRPost
      rw [if_pos h0]
      exact ⟨v, (hc.from HH.out (Keeps.alloc _ _ _)).after⟩
    rw [e1]
    clear e1
    generalize CommitRPost R k ⟨xi, xb, .slice osl xw.length csl, xw⟩ w = post at *
    generalize xw.length = xl at *
    subst h0
    go_enter Tryz.func128, Tryz.ntmps128
    go_wp2_with (first | (go_at_call 184; go_must (refine (HC.out).mono ?_; rintro e w1 ⟨rfl, rfl⟩)) | (go_at_call 187; go_must (refine (HOV.out _ (Keeps.alloc _ _ _)).mono ?_; rintro e w2 ⟨rfl, v, hc⟩; obtain ⟨b0, b1, b2, -⟩ := three_cells (HBOX.out _ _ hc); have HCC := hid hc; clear hc)))
    go_ret2
    exact ⟨rfl, HP.out _ _ HCC.out⟩
  · have hz : ((xw.length : Int) == 0) = false := beq_eq_false_iff_ne.2 (by omega)
    by_cases hmx : 1000000000 ≤ R.now
    · have e1 : commitR R ⟨xi, xb, .slice osl xw.length csl, xw⟩ = (0, 3) := by unfold commitR; rw [if_neg h0, if_pos hmx]
      have HP : Hid (∀ w1, Keeps (fun _ => False) w w1 → CommitRPost R k ⟨xi, xb, .slice osl xw.length csl, xw⟩ w w1) := fun w1 hc => by
        unfold CommitRPost
        rw [if_neg h0, if_pos hmx]
        exact HH.out.same hc
      rw [e1]
      clear e1
      generalize CommitRPost R k ⟨xi, xb, .slice osl xw.length csl, xw⟩ w = post at *
      generalize xw.length = xl at *
      go_enter Tryz.func128, Tryz.ntmps128
      go_wp2_with (go_at_call 184; go_must (refine (HC.out).mono ?_; rintro e w1 ⟨rfl, rfl⟩))
      go_ret2
      exact ⟨rfl, HP.out _ (Keeps.alloc _ _ _)⟩
    · have hlt : R.now < 1000000000 := by omega
      have HCL : Hid (∀ (w1 : World) (v : Value), RCh 219 R (R.overed k v) (w.alloc (.cells #[.int .i64 xi, .int .i64 xb, .slice osl xw.length csl] 219)) w1 → Calls Tryz.prog 188 #[.pointer (some ⟨R.b, 0, none⟩), .agg #[.int .i64 xi, .int .i64 xb, .slice osl xw.length csl]] w1 fun e w' => e = .returned (.bool (clashL R.all xb xw)) ∧ Keeps (fun _ => False) w1 w') := fun w1 v hc =>
        clash_any (R.overed k v) xi xb (.slice osl xw.length csl) xw w1 hc.1 ha (hc.recs (HH.out.kept (Keeps.alloc (fun _ => False) _ _) (fun _ _ h => h)) (Row.kept HWR.out (Keeps.alloc (fun _ => False) _ _) (fun _ _ h => h)) (by decide)) hw
      cases hcl : clashL R.all xb xw with
      | true =>
        have e1 : commitR R ⟨xi, xb, .slice osl xw.length csl, xw⟩ = (0, 4) := by unfold commitR; rw [if_neg h0, if_neg hmx, if_pos hcl]
        have HP : Hid (∀ w1 w2 v, RCh 219 R (R.overed k v) (w.alloc (.cells #[.int .i64 xi, .int .i64 xb, .slice osl xw.length csl] 219)) w1 → Keeps (fun _ => False) w1 w2 → CommitRPost R k ⟨xi, xb, .slice osl xw.length csl, xw⟩ w w2) := fun w1 w2 v hc hk => by
          unfold CommitRPost
          rw [if_neg h0, if_neg hmx, if_pos hcl]
          exact ⟨v, ((hc.from HH.out (Keeps.alloc _ _ _)).trans (hc.1.ch hk)).after⟩
        rw [e1]
        rw [hcl] at HCL
        clear e1 hmx hcl
        generalize CommitRPost R k ⟨xi, xb, .slice osl xw.length csl, xw⟩ w = post at *
        generalize xw.length = xl at *
        go_enter Tryz.func128, Tryz.ntmps128
        go_wp2_with (first | (go_at_call 184; go_must (refine (HC.out).mono ?_; rintro e w1 ⟨rfl, rfl⟩)) | (go_at_call 187; go_must (refine (HOV.out _ (Keeps.alloc _ _ _)).mono ?_; rintro e w2 ⟨rfl, v, hc⟩; obtain ⟨b0, b1, b2, -⟩ := three_cells (HBOX.out _ _ hc); have HCC := hid hc; clear hc)) | (go_at_call 188; go_must (refine (HCL.out _ _ HCC.out).mono ?_; rintro e w3 ⟨rfl, hk3⟩)))
        go_ret2
        exact ⟨rfl, HP.out _ _ _ HCC.out hk3⟩
      | false =>
        have e1 : commitR R ⟨xi, xb, .slice osl xw.length csl, xw⟩ = (R.now + 1, 0) := by unfold commitR; rw [if_neg h0, if_neg hmx, if_neg (by rw [hcl]; decide)]
        have hA0 : RefAt (w.alloc (.cells #[.int .i64 xi, .int .i64 xb, .slice osl xw.length csl] 219)) R := HH.out.kept (Keeps.alloc (fun _ => False) _ _) (fun _ _ h => h)
        have HNOW : Hid (∀ (w1 w2 : World) (v : Value), RCh 219 R (R.overed k v) (w.alloc (.cells #[.int .i64 xi, .int .i64 xb, .slice osl xw.length csl] 219)) w1 → Keeps (fun _ => False) w1 w2 → (w2.cell? ⟨R.b, 1, none⟩ = some (.int .i64 R.now) ∧ w2.frozen? ⟨R.b, 1, none⟩ = false) ∧ (w2.setCell ⟨R.b, 1, none⟩ (.int .i64 (R.now + 1))).heap[w.heap.size]? = some (.cells #[.int .i64 xi, .int .i64 xb, .slice osl xw.length csl] 219 (0, 0)) ∧ (w2.setCell ⟨R.b, 1, none⟩ (.int .i64 (R.now + 1))).cell? ⟨R.b, 1, none⟩ = some (.int .i64 (R.now + 1))) := fun w1 w2 v hc hk => by
          have h2 := hc.1.kept hk (fun _ _ h => h)
          have hb := (hk.block w.heap.size (Array.getElem?_eq_some_iff.1 (HBOX.out _ _ hc)).1 (fun h => h)).trans (HBOX.out _ _ hc)
          refine ⟨⟨h2.cell 1, h2.frozen 1⟩, ?_, ?_⟩
          · rw [(Keeps.setCell w2 ⟨R.b, 1, none⟩ (.int .i64 (R.now + 1))).block w.heap.size (Array.getElem?_eq_some_iff.1 hb).1 (fun e => by have e' : w.heap.size = R.b := e; omega)]
            exact hb
          · exact (cell_of_heap (heap_setCell_same (i := 1) h2.top (.int .i64 (R.now + 1))) 1).trans rfl
        have HPU : Hid (∀ (w1 w2 W : World) (v : Value), RCh 219 R (R.overed k v) (w.alloc (.cells #[.int .i64 xi, .int .i64 xb, .slice osl xw.length csl] 219)) w1 → Keeps (fun _ => False) w1 w2 → Keeps (fun _ => False) (w2.setCell ⟨R.b, 1, none⟩ (.int .i64 (R.now + 1))) W → Calls Tryz.prog 189 #[.pointer (some ⟨R.b, 0, none⟩), .slice osl xw.length csl, .int .i64 (R.now + 1)] W fun e w' => e = .returned (.tuple #[]) ∧ CommitRPost R k ⟨xi, xb, .slice osl xw.length csl, xw⟩ w w' ∧ w'.cell? ⟨R.b, 1, none⟩ = some (.int .i64 (R.now + 1)) ∧ w'.cell? ⟨w.heap.size, 2, none⟩ = some (.slice osl xw.length csl)) := fun w1 w2 W v hc hk hk2 => by
          have t1 := hc.1.ch (e := 219) hk
          have t2 := t1.1.setNow (n := R.now + 1) (e := 219)
          have t3 := t2.1.ch (e := 219) hk2
          have tt := (((hc.from HH.out (Keeps.alloc _ _ _)).trans t1).trans t2).trans t3
          have hr := ((hc.trans t1).trans t2 |>.trans t3).recs hA0 (Row.kept HWR.out (Keeps.alloc (fun _ => False) _ _) (fun _ _ h => h)) (by decide)
          refine (puts_any { R.overed k v with now := R.now + 1 } (.slice osl xw.length csl) xw (R.now + 1) W t3.1 hr (by show R.all.length + _ < _; omega)).mono ?_
          rintro e w' ⟨rfl, v', hp⟩
          refine ⟨rfl, ?_, hp.1.cell 1, ?_⟩
          · unfold CommitRPost
            rw [if_neg h0, if_neg hmx, if_neg (by rw [hcl]; decide)]
            exact ⟨v, v', tt.after.trans hp.after⟩
          · have hb := (HNOW.out w1 w2 v hc hk).2.1
            have hb2 := (hk2.block _ (Array.getElem?_eq_some_iff.1 hb).1 (fun h => h)).trans hb
            have hb3 : w'.heap[w.heap.size]? = some (.cells #[.int .i64 xi, .int .i64 xb, .slice osl xw.length csl] 219 (0, 0)) := by
              rw [hp.2.2.1.block _ (Array.getElem?_eq_some_iff.1 hb2).1 (fun hcc => by
                rcases hcc with e | ⟨-, ht⟩
                · have e' : w.heap.size = R.b := e
                  omega
                · exact ht.ne (e' := 219) (by decide) ⟨_, hb2⟩)]
              exact hb2
            exact cell_of_heap hb3 2
        rw [e1]
        rw [hcl] at HCL
        clear e1 hmx hcl hA0
        generalize CommitRPost R k ⟨xi, xb, .slice osl xw.length csl, xw⟩ w = post at *
        generalize xw.length = xl at *
        go_enter Tryz.func128, Tryz.ntmps128
        go_wp2_with (first | (go_at_call 184; go_must (refine (HC.out).mono ?_; rintro e w1 ⟨rfl, rfl⟩)) | (go_at_call 187; go_must (refine (HOV.out _ (Keeps.alloc _ _ _)).mono ?_; rintro e w2 ⟨rfl, v, hc⟩; obtain ⟨b0, b1, b2, -⟩ := three_cells (HBOX.out _ _ hc); have HCC := hid hc; clear hc)) | (go_at_call 188; go_must (refine (HCL.out _ _ HCC.out).mono ?_; rintro e w3 ⟨rfl, hk3⟩; obtain ⟨⟨y1, y2⟩, yb, y3⟩ := HNOW.out _ _ _ HCC.out hk3; have HYB := hid yb; have HK3 := hid hk3; clear hk3 yb)))
        have z2 : (w3.setCell ⟨R.b, 1, none⟩ (.int .i64 (R.now + 1))).cell? ⟨w1.heap.size, 2, none⟩ = some (.slice osl xl csl) := cell_of_heap HYB.out 2
        go_region_held3 (fun W => W.cell? ⟨R.b, 1, none⟩ = some (.int .i64 (R.now + 1)) ∧ W.cell? ⟨w1.heap.size, 2, none⟩ = some (.slice osl xl csl)) (go_keep) (first | (go_at_call 189; refine (HPU.out _ _ _ _ HCC.out HK3.out (Keeps.drew _ _)).mono ?_; rintro e w5 ⟨rfl, hpost, x1, x2⟩; have HPO := hid hpost; clear hpost))
        go_wp2
        go_ret2
        exact ⟨rfl, HPO.out⟩

end Go.Proofs.YtfcocbcihhdbkaaGreatDoor

/- The document's store: Sweep: what it does to the versions. -/
namespace Go.Proofs.YtfcocbcihhdbkaaGreatDoor
open Go.RowKit Go.Shelf

/-- is there a later one of its key, at or below the floor? -/
def laterB (v : RVer) (floor : Int) (x : RVer) : Bool := decide (x.r.key = v.r.key) && decide (v.state < x.state) && decide (x.state ≤ floor)
def laterL (l : List RVer) (v : RVer) (floor : Int) : Bool := l.any (laterB v floor)
def throwB (l : List RVer) (floor : Int) (v : RVer) : Bool := !v.thrown && decide (v.state ≤ floor) && (laterL l v floor || v.r.gone)
def RVer.off (v : RVer) : RVer := ⟨v.state, v.r, true⟩
def throwV (l : List RVer) (floor : Int) (v : RVer) : RVer := if throwB l floor v = true then v.off else v
def sweptL (l : List RVer) (floor : Int) : List RVer := l.map (throwV l floor)
def sweepN (l : List RVer) (floor : Int) : Nat := l.countP (throwB l floor)
/-- as far as the loop has come -/
def sweepTo (l : List RVer) (floor : Int) (j : Nat) : List RVer := (l.take j).map (throwV l floor) ++ l.drop j
def sweepNTo (l : List RVer) (floor : Int) (j : Nat) : Nat := (l.take j).countP (throwB l floor)

theorem sweepTo_zero (l : List RVer) (f : Int) : sweepTo l f 0 = l := by simp [sweepTo]
theorem sweepTo_full (l : List RVer) (f : Int) {j : Nat} (h : ¬ j < l.length) : sweepTo l f j = sweptL l f := by
  unfold sweepTo sweptL
  rw [List.take_of_length_le (by omega), List.drop_of_length_le (by omega), List.append_nil]
theorem sweepNTo_full (l : List RVer) (f : Int) {j : Nat} (h : ¬ j < l.length) : sweepNTo l f j = sweepN l f := by
  unfold sweepNTo sweepN
  rw [List.take_of_length_le (by omega)]
theorem sweepTo_length (l : List RVer) (f : Int) (j : Nat) (h : j ≤ l.length) : (sweepTo l f j).length = l.length := by
  simp [sweepTo]; omega
theorem sweepTo_at (l : List RVer) (f : Int) {j : Nat} {v : RVer} (hv : l[j]? = some v) : (sweepTo l f j)[j]? = some v := by
  obtain ⟨hj, rfl⟩ := List.getElem?_eq_some_iff.1 hv
  unfold sweepTo
  rw [List.getElem?_append_right (by simp; omega)]
  simp only [List.length_map, List.length_take, Nat.min_eq_left (Nat.le_of_lt hj), Nat.sub_self, List.getElem?_drop, Nat.add_zero]
  exact hv
theorem sweepTo_next (l : List RVer) (f : Int) {j : Nat} {v : RVer} (hv : l[j]? = some v) : sweepTo l f (j + 1) = (sweepTo l f j).set j (throwV l f v) := by
  obtain ⟨hj, hv'⟩ := List.getElem?_eq_some_iff.1 hv
  unfold sweepTo
  have hd : l.drop j = v :: l.drop (j + 1) := by rw [List.drop_eq_getElem_cons hj, hv']
  rw [hd, take_next hv, List.map_append]
  have hlen : ((l.take j).map (throwV l f)).length = j := by simp; omega
  rw [List.set_append_right _ _ (by omega), hlen, Nat.sub_self]
  simp
theorem sweepNTo_next (l : List RVer) (f : Int) {j : Nat} {v : RVer} (hv : l[j]? = some v) : sweepNTo l f (j + 1) = sweepNTo l f j + (if throwB l f v = true then 1 else 0) := by
  unfold sweepNTo
  rw [take_next hv, List.countP_append]
  simp [List.countP_cons]
theorem sweepNTo_le (l : List RVer) (f : Int) (j : Nat) : sweepNTo l f j ≤ j := Nat.le_trans List.countP_le_length (List.length_take_le _ _)

theorem laterB_throw (l : List RVer) (f : Int) (v x : RVer) : laterB v f (throwV l f x) = laterB v f x := by
  unfold throwV
  split <;> rfl
theorem laterL_to (l : List RVer) (f : Int) (j : Nat) (v : RVer) : laterL (sweepTo l f j) v f = laterL l v f := by
  unfold laterL sweepTo
  rw [List.any_append, List.any_map]
  have e : (laterB v f ∘ throwV l f) = laterB v f := funext (fun x => laterB_throw l f v x)
  rw [e, ← List.any_append, List.take_append_drop]

/-- a version's mark is set -/
theorem RefAt.setThrown {w W : World} {R : RRep} {g cap j : Nat} {v : RVer} (h : RefAt w R) (hk : Keeps (fun _ => False) w W) (hv : R.va = .slice (some ⟨g, 0, none⟩) R.all.length cap) (hx : R.all[j]? = some v) :
    RCh 152 R { R with all := R.all.set j v.off } w (W.setCell ⟨g, j * 5 + 4, none⟩ (.bool true)) := by
  have hg : R.va.ownBlock = some g := by rw [hv]; rfl
  have hgt : TypeIs w g 152 := h.all.typeIs hg
  have hgb : R.b ≠ g := fun e => hgt.ne (e' := 79) (by decide) (e ▸ ⟨_, h.top⟩)
  have hb := (hk.block _ h.blt (fun h => h)).trans h.top
  have hset := (h.all.kept hk (fun _ _ h => h))
  rw [hv] at hset
  have hs2 := hset.setAt (j * 5 + 4) (.bool true)
  rw [flat_set RVer.len (.bool true) v.off R.all j 4 v hx (by omega) rfl] at hs2
  refine RefAt.putAll (v := R.va) h ?_ ?_ ?_ (fun q hq => .inl hq)
  · exact (hk.mono (T := fun k => k = R.b ∨ R.va.ownBlock = some k) (fun _ _ h => h.elim)).tr (Keeps.setCell _ _ _) (fun k e => .inr (by rw [hg]; exact congrArg some (show g = k from e.symm)))
  · have : (W.setCell ⟨g, j * 5 + 4, none⟩ (.bool true)).heap[R.b]? = W.heap[R.b]? := (Keeps.setCell W ⟨g, j * 5 + 4, none⟩ (.bool true)).block R.b (Array.getElem?_eq_some_iff.1 hb).1 (fun e => hgb e)
    rw [this]
    exact hb
  · rw [hv]
    simpa using hs2

theorem RefAt.setFloor {w : World} {R : RRep} {n : Int} {e : TypeId} (h : RefAt w R) : RCh e R { R with floor := n } w (w.setCell ⟨R.b, 2, none⟩ (.int .i64 n)) := by
  have hk : Keeps (fun k => k = R.b ∨ TypeIs w k 79) w (w.setCell ⟨R.b, 2, none⟩ (.int .i64 n)) := (Keeps.setCell _ _ _).mono (fun _ _ h => .inl h)
  obtain ⟨r1, r2, r3, r4, r5, r6⟩ := h.rows _ hk
  refine ⟨⟨?_, r1 (by decide), r2 (by decide), r3 (by decide), r4 (by decide), r5 (by decide), r6 (by decide)⟩, rfl, (Keeps.setCell _ _ _).mono (fun _ _ h => .inl h), fun k hk => .inl hk⟩
  rw [heap_setCell_same h.top]
  rfl

end Go.Proofs.YtfcocbcihhdbkaaGreatDoor
