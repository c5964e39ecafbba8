import Derived.Test.YtkpaiaddikpdoaaGreatDoorM15

/- stream.Chain: Add. -/

namespace Go.Proofs.YtkpaiaddikpdoaaGreatDoor

open Go.RowKit Go.Shelf Go.ChangeMaps Go.MapKept

attribute [local go_sem] Oper.semAt_some

/-- a chain of no stream -/
def ChNo (w : World) (cb : Nat) : Prop := w.heap[cb]? = some (.cells #[.bool false, .int .i64 0, .int .i64 0, .map none] 76 (0, 0))

def mapV (M : List (ByteArray × RecB)) : List (ByteArray × Value) := M.map fun p => (p.1, p.2.val)

/-- a chain with its map -/
structure ChAt (w : World) (cb mb : Nat) (full : Bool) (a b : Nat) (M : List (ByteArray × RecB)) : Prop where
  top : w.heap[cb]? = some (.cells #[.bool full, .int .i64 (a : Nat), .int .i64 (b : Nat), .map (some mb)] 76 (0, 0))
  map : MapAt Value.string w mb (mapV M)

theorem ChAt.kept {S : Nat → Prop} {w w' : World} {cb mb a b : Nat} {full : Bool} {M : List (ByteArray × RecB)} (h : ChAt w cb mb full a b M) (hk : Keeps S w w') (h1 : ¬ S cb) (h2 : ¬ S mb) : ChAt w' cb mb full a b M :=
  ⟨(hk.block cb (Array.getElem?_eq_some_iff.1 h.top).1 h1).trans h.top, h.map.kept hk h2⟩

theorem ChAt.ne {w : World} {cb mb a b : Nat} {full : Bool} {M : List (ByteArray × RecB)} (h : ChAt w cb mb full a b M) : cb ≠ mb := by
  rintro rfl
  obtain ⟨es, clock, hb, -⟩ := h.map
  rw [h.top] at hb
  cases hb

theorem mapV_put (M : List (ByteArray × RecB)) (r : RecB) : put (mapV M) r.key r.val = mapV (put M r.key r) := put_map RecB.val M r.key r

theorem mapV_del (M : List (ByteArray × RecB)) (k : ByteArray) : del (mapV M) k = mapV (del M k) := del_map RecB.val M k

/-- a row of records is no chain and no map -/
theorem Row.notCh {w : World} {cb mb a b : Nat} {full : Bool} {M : List (ByteArray × RecB)} {v : Value} {n : Nat} {xs : List Value} (h : ChAt w cb mb full a b M) (hr : Row w 31 3 v n xs) {g : Nat} (hg : v.ownBlock = some g) : ¬ (g = cb ∨ g = mb) := by
  rintro (rfl | rfl)
  · exact (hr.typeIs hg).ne (e' := 76) (by decide) ⟨_, h.top⟩
  · obtain ⟨c, hc⟩ := hr.typeIs hg
    obtain ⟨es, clock, hb, -⟩ := h.map
    rw [hc] at hb
    cases hb

theorem eqCh_some (b : Nat) (w : World) : (binOp BinOp.eql 74 (.map (some b)) (.map none)).run Tryz.prog w = .ok (.bool false) w := by kernel_rfl

theorem eqCh_none (w : World) : (binOp BinOp.eql 74 (.map none) (.map none)).run Tryz.prog w = .ok (.bool true) w := by kernel_rfl

/-- what Add leaves -/
def AddPost (cb : Nat) (S : Nat → Prop) (full : Bool) (a b : Nat) (M : List (ByteArray × RecB)) (w : World) (e : Ending) (w' : World) : Prop := e = .returned (.bool true) ∧ ∃ mb, ChAt w' cb mb full a b M ∧ (S mb ∨ w.heap.size ≤ mb) ∧ Keeps S w w'

set_option maxRecDepth 100000 in
set_option maxHeartbeats 2000000 in
theorem add_not (cb mb : Nat) (full xf : Bool) (a b xa xb : Nat) (M : List (ByteArray × RecB)) (vr : Value) (w : World) (h : ChAt w cb mb full a b M) (hv : ∃ o n c, vr = .slice o n c) (hn : xf = true ∨ xa ≠ b) :
    Calls Tryz.prog 29 #[.pointer (some ⟨cb, 0, none⟩), .agg #[.bool xf, .int .i64 (xa : Nat), .int .i64 (xb : Nat), vr]] w fun e w' => e = .returned (.bool false) ∧ Keeps (fun _ => False) w w' := by
  obtain ⟨o, n, c, rfl⟩ := hv
  have k0 := Keeps.alloc (fun _ => False) w (.cells #[.bool xf, .int .i64 (xa : Nat), .int .i64 (xb : Nat), .slice o n c] 34)
  have h0 := h.kept k0 (fun h => h) (fun h => h)
  have c0 := cell_of_heap h0.top 0
  have c2 := cell_of_heap h0.top 2
  have c3 := cell_of_heap h0.top 3
  simp at c0 c2 c3
  have hq := eqCh_some mb
  clear h0 h k0
  cases xf with
  | true =>
    clear hn
    go_enter Tryz.func29, Tryz.ntmps29
    go_wp2_with fail
    go_region
    go_wp2
    go_ret
    exact ⟨rfl, ((Keeps.refl _ w).al _).dr⟩
  | false =>
    have hne : xa ≠ b := by simpa using hn
    have hneI : ¬ ((xa : Int) = b) := by omega
    have hneB : ((xa : Int) == b) = false := by rw [beq_eq_false_iff_ne]; exact hneI
    clear hn hne
    go_enter Tryz.func29, Tryz.ntmps29
    go_wp2_with fail
    go_region
    go_wp2
    go_ret
    exact ⟨rfl, ((Keeps.refl _ w).al _).dr⟩

/-- a record more in the map -/
theorem ChAt.set {w w1 : World} {cb mb a b : Nat} {full : Bool} {M M' : List (ByteArray × RecB)} {o : Obj} (h : ChAt w cb mb full a b M) (hk : Keeps (fun _ => False) w w1) (hm : MapAt Value.string (setBlock w1 mb o) mb (mapV M')) : ChAt (setBlock w1 mb o) cb mb full a b M' :=
  ⟨((Keeps.setBlock w1 mb o).block cb (Nat.lt_of_lt_of_le (Array.getElem?_eq_some_iff.1 h.top).1 hk.size) (fun e => h.ne e)).trans ((hk.block cb (Array.getElem?_eq_some_iff.1 h.top).1 (fun h => h)).trans h.top), hm⟩

theorem ChAt.update {w : World} {cb mb a b : Nat} {full : Bool} {M : List (ByteArray × RecB)} (h : ChAt w cb mb full a b M) (r : RecB) : ∃ o, (Instr.mapUpdate 74 (.map (some mb)) (.string r.key) r.val).run Tryz.prog w = .ok () (setBlock w mb o) ∧ MapAt Value.string (setBlock w mb o) mb (mapV (put M r.key r)) := by
  obtain ⟨o, h1, h2⟩ := h.map.update strKeyOk Tryz.underlying74 Tryz.underlying9 r.key r.val
  rw [mapV_put] at h2
  exact ⟨o, h1, h2⟩

theorem ChAt.delete {w : World} {cb mb a b : Nat} {full : Bool} {M : List (ByteArray × RecB)} (h : ChAt w cb mb full a b M) (k : ByteArray) (ty : TypeId) : ∃ o, (Builtin.delete_ #[74, 9] ty #[.map (some mb), .string k]).run Tryz.prog w = .ok (.tuple #[]) (setBlock w mb o) ∧ MapAt Value.string (setBlock w mb o) mb (mapV (del M k)) := by
  obtain ⟨o, h1, h2⟩ := h.map.delete strKeyOk Tryz.underlying74 Tryz.underlying9 k ty
  rw [mapV_del] at h2
  exact ⟨o, h1, h2⟩

set_option maxRecDepth 100000 in
set_option maxHeartbeats 4000000 in
theorem add_next (cb mb : Nat) (full : Bool) (a b xb : Nat) (M : List (ByteArray × RecB)) (oa : Option Addr) (cap : Nat) (l : List RecB) (w : World) (h : ChAt w cb mb full a b M) (hr : Row w 31 3 (.slice oa l.length cap) l.length (recCs l)) (hl : l.length ≤ 1000) :
    Calls Tryz.prog 29 #[.pointer (some ⟨cb, 0, none⟩), .agg #[.bool false, .int .i64 (b : Nat), .int .i64 (xb : Nat), .slice oa l.length cap]] w (AddPost cb (fun j => j = cb ∨ j = mb) full a xb (l.foldl (chStep full) M) w) := by
  have k0 := Keeps.alloc (fun _ => False) w (.cells #[.bool false, .int .i64 (b : Nat), .int .i64 (xb : Nat), .slice oa l.length cap] 34)
  have h0 := h.kept k0 (fun h => h) (fun h => h)
  have c0 := cell_of_heap h0.top 0
  have c2 := cell_of_heap h0.top 2
  have c3 := cell_of_heap h0.top 3
  have f2 := frozen_of_heap h0.top 2
  simp at c0 c2 c3
  have hq := eqCh_some mb
  have HBX := hid (heap_new w (.cells #[.bool false, .int .i64 (b : Nat), .int .i64 (xb : Nat), .slice oa l.length cap] 34))
  have HC := hid h
  have HR := hid hr
  have HL := hid hl
  have hlI : (l.length : Int) ≤ 1000 := by omega
  clear h hr hl h0 k0
  go_enter Tryz.func29, Tryz.ntmps29
  go_wp2_with fail
  go_region
  go_wp2_with fail
  have H5 : Hid (ChAt ((w.alloc (.cells #[.bool false, .int .i64 (b : Nat), .int .i64 (xb : Nat), .slice oa l.length cap] 34)).setCell ⟨cb, 2, none⟩ (.int .i64 (xb : Nat))).drew cb mb full a xb M) := by
    have ka := Keeps.alloc (fun _ => False) w (.cells #[.bool false, .int .i64 (b : Nat), .int .i64 (xb : Nat), .slice oa l.length cap] 34)
    have h0 := HC.out.kept ka (fun h => h) (fun h => h)
    have ks := Keeps.setCell (w.alloc (.cells #[.bool false, .int .i64 (b : Nat), .int .i64 (xb : Nat), .slice oa l.length cap] 34)) ⟨cb, 2, none⟩ (.int .i64 (xb : Nat))
    exact ⟨(heap_setCell_same h0.top _).trans (by simp), h0.map.kept ks.dr (fun e => h0.ne (show mb = cb from e).symm)⟩
  have HK5 : Hid (Keeps (fun j => j = cb ∨ j = mb) w ((w.alloc (.cells #[.bool false, .int .i64 (b : Nat), .int .i64 (xb : Nat), .slice oa l.length cap] 34)).setCell ⟨cb, 2, none⟩ (.int .i64 (xb : Nat))).drew) := (((Keeps.refl (fun j => j = cb ∨ j = mb) w).al _).st (p := ⟨cb, 2, none⟩) (.inr (.inl rfl)) _).dr
  generalize ((w.alloc (.cells #[.bool false, .int .i64 (b : Nat), .int .i64 (xb : Nat), .slice oa l.length cap] 34)).setCell ⟨cb, 2, none⟩ (.int .i64 (xb : Nat))).drew = w5 at *
  have sa : 0 < l.length → ∃ g, oa = some ⟨g, 0, none⟩ := by
    obtain ⟨oa', ca', he, -, sa⟩ := HR.out.form
    cases he
    exact sa
  have SA := hid sa
  clear c0 c2 c3 f2 HBX sa
  go_loopw [39] (fun i wr => ∃ k : Nat, k ≤ l.length ∧ i = .int .i64 (k : Nat) ∧ ChAt wr cb mb full a xb ((l.take k).foldl (chStep full) M) ∧ Keeps (fun j => j = cb ∨ j = mb) w wr) (fun i _ => l.length - (intOf i).toNat)
  case atStart => exact ⟨0, Nat.zero_le _, rfl, H5.out, HK5.out⟩
  case round =>
    obtain ⟨k, hk, rfl, hC, hK⟩ := hrel
    have hkI : (k : Int) ≤ l.length := by omega
    have HCH := hid hC
    have HKK := hid hK
    by_cases hkl : k < l.length
    · obtain ⟨g, rfl⟩ := SA.out (by omega)
      have hrow : RecsAt wr (.slice (some ⟨g, 0, none⟩) l.length cap) l := HR.out.kept hK (fun g hg => Row.notCh HC.out HR.out hg)
      obtain ⟨r0, r1, r2⟩ := rec_cells hrow k hkl
      have hklI : (k : Int) < l.length := by omega
      have htk : (l.take (k + 1)).foldl (chStep full) M = chStep full ((l.take k).foldl (chStep full) M) l[k] := by rw [List.take_succ_eq_append_getElem hkl, List.foldl_append]; rfl
      have HTK := hid htk
      obtain ⟨y, hy⟩ : ∃ y, y = l[k] := ⟨_, rfl⟩
      rw [← hy] at r0 r1 r2 HTK
      obtain ⟨yk, yv, yg⟩ := y
      simp only at r0 r1 r2
      generalize (l.take k).foldl (chStep full) M = N at *
      have ka : Keeps (fun _ => False) wr (wr.alloc (.cells #[.string yk, .string yv, .bool yg] 31)) := Keeps.alloc _ _ _
      have hA := hC.kept ka (fun h => h) (fun h => h)
      have t0 := cell_of_heap hA.top 0
      have t3 := cell_of_heap hA.top 3
      simp at t0 t3
      have HKL := hid hkl
      have hB := hA.kept ((Keeps.refl (fun _ => False) _).dr) (fun h => h) (fun h => h)
      have HFIN : Hid (∀ W o M', Keeps (fun _ => False) wr W → MapAt Value.string (setBlock W mb o) mb (mapV M') → ChAt (setBlock W mb o) cb mb full a xb M' ∧ Keeps (fun j => j = cb ∨ j = mb) w (setBlock W mb o)) := fun W o M' h1 h2 => ⟨HCH.out.set h1 h2, (HKK.out.tr h1 (fun _ h => h.elim)).tr (Keeps.setBlock W mb o) (fun _ e => .inr e)⟩
      by_cases hfg : full = true ∧ yg = true
      · obtain ⟨rfl, rfl⟩ := hfg
        obtain ⟨o, ho1, ho2⟩ := hB.delete yk 0
        have HO := hid ho2
        have HCE : Hid (chStep true N ⟨yk, yv, true⟩ = del N yk) := rfl
        clear hC hK hrow htk hy hk hkl hA hB ho2 ka
        go_wp2_with fail
        go_region
        go_wp2
        have hf := HFIN.out _ o (del N yk) (((Keeps.refl (fun _ => False) wr).al _).dr) HO.out
        exact ⟨⟨k + 1, HKL.out, by go_num, by rw [HTK.out]; exact hf.1, hf.2⟩, by simp only [intOf]; have := HKL.out; omega⟩
      · obtain ⟨o, ho1, ho2⟩ := hB.update ⟨yk, yv, yg⟩
        have ho1' : (Instr.mapUpdate 74 (.map (some mb)) (.string yk) (.agg #[.string yk, .string yv, .bool yg])).run Tryz.prog (wr.alloc (.cells #[.string yk, .string yv, .bool yg] 31)).drew = .ok () (setBlock (wr.alloc (.cells #[.string yk, .string yv, .bool yg] 31)).drew mb o) := ho1
        have HO := hid ho2
        have HCE : Hid (chStep full N ⟨yk, yv, yg⟩ = put N yk ⟨yk, yv, yg⟩) := by
          show (if (full && yg) = true then _ else _) = _
          rw [if_neg (by rw [Bool.and_eq_true]; exact hfg)]
        have hcs : full = false ∨ (full = true ∧ yg = false) := by
          cases full with
          | false => exact .inl rfl
          | true =>
            cases yg with
            | false => exact .inr ⟨rfl, rfl⟩
            | true => exact absurd ⟨rfl, rfl⟩ hfg
        clear hC hK hrow htk hy hk hkl hA hB ho1 ho2 ka hfg
        rcases hcs with rfl | ⟨rfl, rfl⟩
        all_goals
          go_wp2_with fail
          go_region
          go_wp2
          have hf := HFIN.out _ o _ (((Keeps.refl (fun _ => False) wr).al _).dr) HO.out
          exact ⟨⟨k + 1, HKL.out, by go_num, by rw [HTK.out, HCE.out]; exact hf.1, hf.2⟩, by simp only [intOf]; have := HKL.out; omega⟩
    · have e : l.take k = l := List.take_of_length_le (by omega)
      rw [e] at HCH
      have hkn : ¬ ((k : Int) < l.length) := by omega
      clear hC hK e
      go_wp2
      go_ret
      exact ⟨rfl, mb, HCH.out, .inl (.inr rfl), HKK.out⟩

end Go.Proofs.YtkpaiaddikpdoaaGreatDoor

/- stream.Chain: Add of the first stream. -/

namespace Go.Proofs.YtkpaiaddikpdoaaGreatDoor

open Go.RowKit Go.Shelf Go.ChangeMaps Go.MapKept

attribute [local go_sem] Oper.semAt_some

set_option maxRecDepth 100000 in
set_option maxHeartbeats 4000000 in
theorem add_first (cb : Nat) (full : Bool) (a xb : Nat) (oa : Option Addr) (cap : Nat) (l : List RecB) (w : World) (h : ChNo w cb) (hr : Row w 31 3 (.slice oa l.length cap) l.length (recCs l)) (hl : l.length ≤ 1000) :
    Calls Tryz.prog 29 #[.pointer (some ⟨cb, 0, none⟩), .agg #[.bool full, .int .i64 (a : Nat), .int .i64 (xb : Nat), .slice oa l.length cap]] w (AddPost cb (fun j => j = cb) full a xb (l.foldl (chStep full) []) w) := by
  have hcb : cb < w.heap.size := (Array.getElem?_eq_some_iff.1 h).1
  have c0 := cell_of_heap h 0
  have c1 := cell_of_heap h 1
  have c2 := cell_of_heap h 2
  have c3 := cell_of_heap h 3
  have f0 := frozen_of_heap h 0
  have f1 := frozen_of_heap h 1
  have f2 := frozen_of_heap h 2
  have f3 := frozen_of_heap h 3
  simp at c0 c1 c2 c3
  have hq := eqCh_none
  have hmm := @run_makeMap Tryz.prog
  have HC := hid h
  have HR := hid hr
  have HL := hid hl
  have hlI : (l.length : Int) ≤ 1000 := by omega
  have hne : ¬ (cb = w.heap.size) := by omega
  have hne2 : ¬ (w.heap.size = cb) := by omega
  have hne3 : ¬ (cb = w.heap.size + 1) := by omega
  have hne4 : ¬ (w.heap.size + 1 = cb) := by omega
  clear h hr hl
  go_enter Tryz.func29, Tryz.ntmps29
  go_wp2_with fail
  have H5 : Hid (ChAt (((((((w.setCell ⟨cb, 0, none⟩ (.bool full)).setCell ⟨cb, 1, none⟩ (.int .i64 (a : Nat))).setCell ⟨cb, 2, none⟩ (.int .i64 0)).setCell ⟨cb, 3, none⟩ (.map (some (w.heap.size + 1)))).setCell ⟨cb, 2, none⟩ (.int .i64 (xb : Nat))).alloc (.cells #[.bool full, .int .i64 (a : Nat), .int .i64 (xb : Nat), .slice oa l.length cap] 34)).alloc (.map #[] 0)) cb (w.heap.size + 1) full a xb []) := by
    have hs : (((((w.setCell ⟨cb, 0, none⟩ (.bool full)).setCell ⟨cb, 1, none⟩ (.int .i64 (a : Nat))).setCell ⟨cb, 2, none⟩ (.int .i64 0)).setCell ⟨cb, 3, none⟩ (.map (some (w.heap.size + 1)))).setCell ⟨cb, 2, none⟩ (.int .i64 (xb : Nat))).heap[cb]? = some (.cells #[.bool full, .int .i64 (a : Nat), .int .i64 (xb : Nat), .map (some (w.heap.size + 1))] 76 (0, 0)) := by
      have e0 := heap_setCell_same (i := 0) HC.out (.bool full)
      have e1 := heap_setCell_same (i := 1) e0 (.int .i64 (a : Nat))
      have e2 := heap_setCell_same (i := 2) e1 (.int .i64 0)
      have e3 := heap_setCell_same (i := 3) e2 (.map (some (w.heap.size + 1)))
      have e4 := heap_setCell_same (i := 2) e3 (.int .i64 (xb : Nat))
      simpa using e4
    have kk := ((Keeps.refl (fun _ => False) (((((w.setCell ⟨cb, 0, none⟩ (.bool full)).setCell ⟨cb, 1, none⟩ (.int .i64 (a : Nat))).setCell ⟨cb, 2, none⟩ (.int .i64 0)).setCell ⟨cb, 3, none⟩ (.map (some (w.heap.size + 1)))).setCell ⟨cb, 2, none⟩ (.int .i64 (xb : Nat)))).al (.cells #[.bool full, .int .i64 (a : Nat), .int .i64 (xb : Nat), .slice oa l.length cap] 34)).al (.map #[] 0)
    refine ⟨(kk.block cb (Array.getElem?_eq_some_iff.1 hs).1 (fun h => h)).trans hs, ?_⟩
    have := MapAt.made Value.string ((((((w.setCell ⟨cb, 0, none⟩ (.bool full)).setCell ⟨cb, 1, none⟩ (.int .i64 (a : Nat))).setCell ⟨cb, 2, none⟩ (.int .i64 0)).setCell ⟨cb, 3, none⟩ (.map (some (w.heap.size + 1)))).setCell ⟨cb, 2, none⟩ (.int .i64 (xb : Nat))).alloc (.cells #[.bool full, .int .i64 (a : Nat), .int .i64 (xb : Nat), .slice oa l.length cap] 34))
    simpa [mapV] using this
  have HK5 : Hid (Keeps (fun j => j = cb) w (((((((w.setCell ⟨cb, 0, none⟩ (.bool full)).setCell ⟨cb, 1, none⟩ (.int .i64 (a : Nat))).setCell ⟨cb, 2, none⟩ (.int .i64 0)).setCell ⟨cb, 3, none⟩ (.map (some (w.heap.size + 1)))).setCell ⟨cb, 2, none⟩ (.int .i64 (xb : Nat))).alloc (.cells #[.bool full, .int .i64 (a : Nat), .int .i64 (xb : Nat), .slice oa l.length cap] 34)).alloc (.map #[] 0))) := (((((((Keeps.refl (fun j => j = cb) w).st (p := ⟨cb, 0, none⟩) (.inr rfl) _).st (p := ⟨cb, 1, none⟩) (.inr rfl) _).st (p := ⟨cb, 2, none⟩) (.inr rfl) _).st (p := ⟨cb, 3, none⟩) (.inr rfl) _).st (p := ⟨cb, 2, none⟩) (.inr rfl) _).al _).al _
  generalize ((((((w.setCell ⟨cb, 0, none⟩ (.bool full)).setCell ⟨cb, 1, none⟩ (.int .i64 (a : Nat))).setCell ⟨cb, 2, none⟩ (.int .i64 0)).setCell ⟨cb, 3, none⟩ (.map (some (w.heap.size + 1)))).setCell ⟨cb, 2, none⟩ (.int .i64 (xb : Nat))).alloc (.cells #[.bool full, .int .i64 (a : Nat), .int .i64 (xb : Nat), .slice oa l.length cap] 34)).alloc (.map #[] 0) = w5 at *
  obtain ⟨mb, hmb⟩ : ∃ mb, mb = w.heap.size + 1 := ⟨_, rfl⟩
  rw [← hmb] at H5
  have HMB : Hid (w.heap.size ≤ mb) := by show _ ≤ _; omega
  clear hmb
  have sa : 0 < l.length → ∃ g, oa = some ⟨g, 0, none⟩ := by
    obtain ⟨oa', ca', he, -, sa⟩ := HR.out.form
    cases he
    exact sa
  have SA := hid sa
  clear c0 c1 c2 c3 f0 f1 f2 f3 sa hne hne2 hne3 hne4
  go_loopw [39] (fun i wr => ∃ k : Nat, k ≤ l.length ∧ i = .int .i64 (k : Nat) ∧ ChAt wr cb mb full a xb ((l.take k).foldl (chStep full) []) ∧ Keeps (fun j => j = cb) w wr) (fun i _ => l.length - (intOf i).toNat)
  case atStart => exact ⟨0, Nat.zero_le _, rfl, H5.out, HK5.out⟩
  case round =>
    obtain ⟨k, hk, rfl, hC, hK⟩ := hrel
    have hkI : (k : Int) ≤ l.length := by omega
    have HCH := hid hC
    have HKK := hid hK
    by_cases hkl : k < l.length
    · obtain ⟨g, rfl⟩ := SA.out (by omega)
      have hrow : RecsAt wr (.slice (some ⟨g, 0, none⟩) l.length cap) l := HR.out.kept hK (fun g hg e => (HR.out.typeIs hg).ne (e' := 76) (by decide) ((show g = cb from e) ▸ ⟨_, HC.out⟩))
      obtain ⟨r0, r1, r2⟩ := rec_cells hrow k hkl
      have hklI : (k : Int) < l.length := by omega
      have htk : (l.take (k + 1)).foldl (chStep full) [] = chStep full ((l.take k).foldl (chStep full) []) l[k] := by rw [List.take_succ_eq_append_getElem hkl, List.foldl_append]; rfl
      have HTK := hid htk
      obtain ⟨y, hy⟩ : ∃ y, y = l[k] := ⟨_, rfl⟩
      rw [← hy] at r0 r1 r2 HTK
      obtain ⟨yk, yv, yg⟩ := y
      simp only at r0 r1 r2
      generalize (l.take k).foldl (chStep full) [] = N at *
      have ka : Keeps (fun _ => False) wr (wr.alloc (.cells #[.string yk, .string yv, .bool yg] 31)) := Keeps.alloc _ _ _
      have hA := hC.kept ka (fun h => h) (fun h => h)
      have t0 := cell_of_heap hA.top 0
      have t3 := cell_of_heap hA.top 3
      simp at t0 t3
      have HKL := hid hkl
      have hB := hA.kept ((Keeps.refl (fun _ => False) _).dr) (fun h => h) (fun h => h)
      have HFIN : Hid (∀ W o M', Keeps (fun _ => False) wr W → MapAt Value.string (setBlock W mb o) mb (mapV M') → ChAt (setBlock W mb o) cb mb full a xb M' ∧ Keeps (fun j => j = cb) w (setBlock W mb o)) := fun W o M' h1 h2 => ⟨HCH.out.set h1 h2, (HKK.out.tr h1 (fun _ h => h.elim)).trans (Keeps.setBlock W mb o) (fun k hk e => by have e' : k = mb := e; have := HMB.out; omega)⟩
      by_cases hfg : full = true ∧ yg = true
      · obtain ⟨rfl, rfl⟩ := hfg
        obtain ⟨o, ho1, ho2⟩ := hB.delete yk 0
        have HO := hid ho2
        have HCE : Hid (chStep true N ⟨yk, yv, true⟩ = del N yk) := rfl
        clear hC hK hrow htk hy hk hkl hA hB ho2 ka
        go_wp2_with fail
        go_region
        go_wp2
        have hf := HFIN.out _ o (del N yk) (((Keeps.refl (fun _ => False) wr).al _).dr) HO.out
        exact ⟨⟨k + 1, HKL.out, by go_num, by rw [HTK.out]; exact hf.1, hf.2⟩, by simp only [intOf]; have := HKL.out; omega⟩
      · obtain ⟨o, ho1, ho2⟩ := hB.update ⟨yk, yv, yg⟩
        have ho1' : (Instr.mapUpdate 74 (.map (some mb)) (.string yk) (.agg #[.string yk, .string yv, .bool yg])).run Tryz.prog (wr.alloc (.cells #[.string yk, .string yv, .bool yg] 31)).drew = .ok () (setBlock (wr.alloc (.cells #[.string yk, .string yv, .bool yg] 31)).drew mb o) := ho1
        have HO := hid ho2
        have HCE : Hid (chStep full N ⟨yk, yv, yg⟩ = put N yk ⟨yk, yv, yg⟩) := by
          show (if (full && yg) = true then _ else _) = _
          rw [if_neg (by rw [Bool.and_eq_true]; exact hfg)]
        have hcs : full = false ∨ (full = true ∧ yg = false) := by
          cases full with
          | false => exact .inl rfl
          | true =>
            cases yg with
            | false => exact .inr ⟨rfl, rfl⟩
            | true => exact absurd ⟨rfl, rfl⟩ hfg
        clear hC hK hrow htk hy hk hkl hA hB ho1 ho2 ka hfg
        rcases hcs with rfl | ⟨rfl, rfl⟩
        all_goals
          go_wp2_with fail
          go_region
          go_wp2
          have hf := HFIN.out _ o _ (((Keeps.refl (fun _ => False) wr).al _).dr) HO.out
          exact ⟨⟨k + 1, HKL.out, by go_num, by rw [HTK.out, HCE.out]; exact hf.1, hf.2⟩, by simp only [intOf]; have := HKL.out; omega⟩
    · have e : l.take k = l := List.take_of_length_le (by omega)
      rw [e] at HCH
      have hkn : ¬ ((k : Int) < l.length) := by omega
      clear hC hK e
      go_wp2
      go_ret
      exact ⟨rfl, mb, HCH.out, .inr HMB.out, HKK.out⟩

end Go.Proofs.YtkpaiaddikpdoaaGreatDoor

/- annalsref: Decode, pure: what a scan that carries on what is wrong comes to. -/

namespace Go.Proofs.YtkpaiaddikpdoaaGreatDoor

open Go.RowKit Go.Shelf

/-- between two blocks -/
def DMid (R : Rd (List Rec)) (n3 : Nat) (more : Bool) (acc : List RecB) : Rd Unit → Prop
  | .inl k => R = .bad k ∧ acc.length ≤ 4 * n3 + 4
  | .inr (_, l) => acc.length + 4 * l.length ≤ 4 * n3 ∧ ∃ a : List Rec, acc = a.map recB ∧ (if more = true then ∃ f, l.length < f ∧ R = blocksR f a l else R = .ok a l)

theorem DMid.zero {f : Nat} {l : List UInt8} (h : l.length < f) : DMid (blocksR f [] l) l.length true [] (.ok () l) :=
  ⟨by simp, [], rfl, by rw [if_pos rfl]; exact ⟨f, h, rfl⟩⟩

/-- what a block leaves -/
def BlkS (B : Rd (List Rec)) (x : List RecB) (s : Rd Unit) : Prop := x.length ≤ 4 ∧ match B with
  | .inl k => s = .bad k
  | .inr (y, r) => s = .ok () r ∧ x = y.map recB

theorem DMid.next {text : ByteArray} {R : Rd (List Rec)} {n3 : Nat} {acc x : List RecB} {l : List UInt8} {s : Rd Unit} (h : DMid R n3 true acc (.ok () l)) (hp : Place text l) (hb : BlkS (blockR l) x s) : DMid R n3 (decide (0 < x.length)) (acc ++ x) s := by
  obtain ⟨h1, a, rfl, h2⟩ := h
  rw [if_pos rfl] at h2
  obtain ⟨f, hf, rfl⟩ := h2
  obtain ⟨hx, hb⟩ := hb
  obtain ⟨f, rfl⟩ : ∃ g, f = g + 1 := ⟨f - 1, by omega⟩
  rcases hB : blockR l with k | ⟨y, r⟩
  · rw [hB] at hb
    subst hb
    exact ⟨by rw [blocksR, hB]; rfl, by rw [List.length_append]; omega⟩
  · rw [hB] at hb
    obtain ⟨rfl, rfl⟩ := hb
    have hr := (blockR_fits hp hB).2
    refine ⟨by rw [List.length_append]; omega, a ++ y, by rw [List.map_append], ?_⟩
    rw [List.length_map]
    by_cases hy : y = []
    · subst hy
      rw [if_neg (by simp), blocksR, hB, Rd.bind_ok, if_pos rfl, List.append_nil]
    · rw [if_pos (by simpa using List.length_pos_iff.2 hy)]
      exact ⟨f, by omega, by rw [blocksR, hB, Rd.bind_ok, if_neg hy]⟩

/-- the end: what is left must be nothing -/
def endS : Rd Unit → Rd Unit
  | .inl k => .bad k
  | .inr (_, r) => if r = [] then .ok () r else .bad r.length

theorem tailS_eq {n m : Nat} {l : List UInt8} {s : Rd Unit} (h : numS n n (.ok () l) = (m, s)) : endS s = tailR n l := by
  unfold tailR
  rcases numS_ok h with ⟨r, e, rfl⟩ | ⟨k, e, rfl, -⟩
  · rw [bnd_one] at e
    rcases hx : nrR l with k | ⟨q, r'⟩
    · rw [hx] at e; cases e
    · rw [hx, Rd.bind_ok] at e
      rw [Rd.bind_ok]
      split at e
      · rename_i hq
        simp only [Sum.inr.injEq, Prod.mk.injEq] at e
        rw [if_pos hq, ← e.2]
        unfold endS
        simp only
      · cases e
  · rw [bnd_one] at e
    rcases hx : nrR l with q | ⟨q, r'⟩
    · rw [hx] at e; rw [Rd.bind_bad] at e ⊢; unfold endS; simp only; cases e; rfl
    · rw [hx, Rd.bind_ok] at e
      rw [Rd.bind_ok]
      split at e
      · cases e
      · rename_i hq
        rw [if_neg hq]
        unfold endS
        simp only
        cases e
        rfl

/-- the two numbers of the head, the blocks, the rest -/
theorem coreS_eq {l l1 : List UInt8} {k more : Bool} {a b m : Nat} {s2 s3 s4 s5 : Rd Unit} {acc : List RecB} (hk : kindR l = .ok k l1) (h2 : numS 0 34359738367 (.ok () l1) = (a, s2)) (h3 : numS 0 34359738367 s2 = (b, s3))
    (h4 : match s3 with | .inl j => s4 = .bad j | .inr (_, l3) => DMid (blocksR (l.length + 1) [] l3) l3.length more acc s4 ∧ (more = true → ∃ j, s4 = .bad j)) (h5 : numS acc.length acc.length s4 = (m, s5)) :
    match coreR l with | .inl j => endS s5 = .bad j | .inr (x, r) => endS s5 = .ok () [] ∧ r = [] ∧ x.full = k ∧ x.a = a ∧ x.b = b ∧ acc = x.recs.map recB := by
  unfold coreR
  rw [hk, Rd.bind_ok]
  rcases numS_ok h2 with ⟨r2, e2, rfl⟩ | ⟨j, e2, rfl, -⟩
  · rw [bnd_all] at e2
    rw [e2, Rd.bind_ok]
    rcases numS_ok h3 with ⟨r3, e3, rfl⟩ | ⟨j, e3, rfl, -⟩
    · rw [bnd_all] at e3
      rw [e3, Rd.bind_ok]
      obtain ⟨h4, h6⟩ := h4
      rcases s4 with j | ⟨u, l4⟩
      · rw [h4.1, Rd.bind_bad]
        simp only [numS, Prod.mk.injEq] at h5
        rw [← h5.2]
        rfl
      · obtain ⟨-, y, rfl, h7⟩ := h4
        cases more with
        | true => obtain ⟨j, hj⟩ := h6 rfl; cases hj
        | false =>
          rw [if_neg (by simp)] at h7
          have ht := tailS_eq h5
          rw [List.length_map] at ht
          rw [h7, Rd.bind_ok, ← ht]
          rcases s5 with j | ⟨u, r⟩
          · rfl
          · unfold endS at ht ⊢
            by_cases hr : r = []
            · subst hr
              simp only [if_true]
              simp [Rd.bind]
            · simp only [if_neg hr]
              simp [Rd.bind]
    · rw [bnd_all] at e3
      rw [e3, Rd.bind_bad]
      simp only at h4
      subst h4
      simp only [numS, Prod.mk.injEq] at h5
      rw [← h5.2]
      rfl
  · rw [bnd_all] at e2
    rw [e2, Rd.bind_bad]
    simp only [numS, Prod.mk.injEq] at h3
    obtain ⟨-, rfl⟩ := h3
    simp only at h4
    subst h4
    simp only [numS, Prod.mk.injEq] at h5
    rw [← h5.2]
    rfl

end Go.Proofs.YtkpaiaddikpdoaaGreatDoor

/- annalsref: a scan: block, what its loop keeps. -/

namespace Go.Proofs.YtkpaiaddikpdoaaGreatDoor

open Go.RowKit Go.Shelf

/-- A list that a function makes beside what it writes (old blocks S): v holds l in W, its block is new since w. -/
structure MadeX {α : Type} (S : Nat → Prop) (e : TypeId) (size : Nat) (f : α → List Value) (w W : World) (v : Value) (l : List α) : Prop where
  row : Row W e size v l.length (l.flatMap f)
  own : ∀ g, v.ownBlock = some g → w.heap.size ≤ g
  keep : Keeps S w W

theorem MadeX.nil {α : Type} {S : Nat → Prop} {e : TypeId} {size : Nat} {f : α → List Value} {w W : World} (hk : Keeps S w W) : MadeX S e size f w W (.slice none 0 0) ([] : List α) :=
  ⟨Row.nil _ _ _, fun g hg => by simp [Value.ownBlock] at hg, hk⟩

theorem MadeX.kept {α : Type} {S : Nat → Prop} {e : TypeId} {size : Nat} {f : α → List Value} {w W W' : World} {v : Value} {l : List α} (h : MadeX S e size f w W v l) (hS : ∀ k, S k → k < w.heap.size) (hk : Keeps S W W') : MadeX S e size f w W' v l :=
  ⟨h.row.kept hk (fun g hg hs => by have := h.own g hg; have := hS g hs; omega), h.own, h.keep.tr hk (fun _ h => h)⟩

/-- append of one -/
theorem MadeX.push {α : Type} {S : Nat → Prop} {e : TypeId} {size : Nat} {f : α → List Value} {w W W1 w' : World} {v v' : Value} {l : List α} {a : α} (h : MadeX S e size f w W v l) (hW : Keeps S W W1) (hr : Row w' e size v' (l.length + 1) (l.flatMap f ++ f a)) (hg : W1.grownBy w' v.ownBlock)
    (ho : v'.ownBlock = v.ownBlock ∨ v'.ownBlock = some W1.heap.size) : MadeX S e size f w w' v' (l ++ [a]) := by
  have hz := h.keep.size
  have hz1 := hW.size
  refine ⟨by simpa using hr, fun g hgv => ?_, (h.keep.tr hW (fun _ h => h)).trans (Keeps.grown hg) (fun k hk e => ?_)⟩
  · rcases ho with e1 | e1
    · exact h.own g (by rw [← e1]; exact hgv)
    · rw [hgv] at e1
      simp at e1
      omega
  · have := h.own k e.symm
    omega

theorem news_at (w : World) (arr : Array Value) (t : TypeId) {b : Nat} (hb : b = w.heap.size) : ∀ j u, arr.toList[j]? = some u → (w.alloc (.cells arr t)).cell? ((⟨b, 0, none⟩ : Addr).add j) = some u := by
  subst hb
  exact news_arr w arr t

theorem ScS.at_ {w : World} {sb : Nat} {text : ByteArray} {s : Rd Unit} (h : ScS w sb text s) : ∃ at_, at_ ≤ text.size ∧ ScAt w sb text at_ (badI text s) ∧ ∀ l, s = .ok () l → at_ = text.size - l.length := by
  rcases s with k | ⟨u, l⟩
  · obtain ⟨at_, h1, h2⟩ := h
    exact ⟨at_, h1, h2, fun l e => by cases e⟩
  · exact ⟨_, Nat.sub_le _ _, h.2, fun l' e => by cases e; rfl⟩

/-- between two records of a block, good or bad -/
def MidS (n : Nat) (l1 : List UInt8) (k : Nat) (ah : ByteArray) (done : List RecB) : Rd Unit → Prop
  | .inl j => recsR n [] l1 = .bad j ∧ done.length ≤ 4 ∧ ah.size ≤ 10
  | .inr (_, l) => ∃ d, done = d.map recB ∧ MidR n l1 k ah d l

theorem MidS.zero (n : Nat) (l1 : List UInt8) : MidS n l1 0 ⟨#[]⟩ [] (.ok () l1) := ⟨[], rfl, MidR.zero n l1⟩

theorem MidS.few {n k : Nat} {l1 : List UInt8} {ah : ByteArray} {done : List RecB} {s : Rd Unit} (h : MidS n l1 k ah done s) (hn : n ≤ 4) : done.length ≤ 4 ∧ ah.size ≤ 10 := by
  rcases s with j | ⟨u, l⟩
  · exact h.2
  · obtain ⟨d, rfl, hm⟩ := h
    rw [List.length_map, hm.len]
    exact ⟨by have := hm.le; omega, hm.key⟩

/-- the round's end -/
theorem MidS.next {text : ByteArray} {n k : Nat} {l1 l x v : List UInt8} {ah : ByteArray} {done : List RecB} {c m sz : Nat} {s1 s2 s3 s4 s5 : Rd Unit} (h : MidS n l1 k ah done (.ok () l)) (hp : Place text l) (hk : k < n) (hn : n ≤ 4)
    (h1 : numS 0 ah.size (.ok () l) = (c, s1)) (h2 : numS (1 - c) (10 - c) s1 = (m, s2)) (h3 : takeS m s2 = (x, s3)) (h4 : numS 0 41 s3 = (sz, s4)) (h5 : valS sz s4 = (v, s5)) :
    (∃ j, s5 = .bad j ∧ MidS n l1 (k + 1) ah done (.bad j)) ∨ ∃ l2, s5 = .ok () l2 ∧ MidS n l1 (k + 1) (ah.extract 0 c ++ ofL x) (done ++ [⟨ah.extract 0 c ++ ofL x, ofL v, decide (sz = 0)⟩]) (.ok () l2) := by
  obtain ⟨d, rfl, hm⟩ := h
  have hl : ah.size = ah.data.toList.length := Array.length_toList.symm
  rw [hl] at h1
  rcases recS_eq h1 h2 h3 h4 h5 with ⟨j, e, rfl⟩ | ⟨l2, e, rfl⟩
  · refine .inl ⟨j, rfl, hm.bad hk e, ?_, hm.key⟩
    rw [List.length_map, hm.len]
    omega
  · have hf := recR_fits (by rw [← hl]; exact hm.key) hp e
    have hM := hm.next hk e hf.2.1 hf.2.2.2
    have hkey : ofL (ah.data.toList.take c ++ x) = ah.extract 0 c ++ ofL x := (key_extract ah c x).symm
    refine .inr ⟨l2, rfl, _, ?_, by rw [← hkey]; exact hM⟩
    rw [List.map_append, List.map_singleton]
    unfold recB
    rw [hkey]

/-- behind the records: the check is read -/
theorem blk_bad {l l1 x : List UInt8} {n k j : Nat} {ah : ByteArray} {done : List RecB} {s : Rd Unit} (hb : bndR 0 4 l = .ok n l1) (hn : n ≠ 0) (h : MidS n l1 k ah done s) (hk : (∃ l', s = .ok () l') → k = n) (ht : takeS 4 s = (x, .bad j)) : blockR l = .bad j := by
  unfold blockR
  rw [hb, Rd.bind_ok, if_neg hn]
  rcases s with i | ⟨u, l2⟩
  · simp only [takeS, Prod.mk.injEq, Sum.inl.injEq] at ht
    rw [h.1, Rd.bind_bad, ht.2]
  · obtain rfl := hk ⟨l2, rfl⟩
    obtain ⟨d, rfl, hm⟩ := h
    rw [hm.all_, Rd.bind_ok]
    unfold endR
    rcases takeS_ok ht with ⟨r, e, e2⟩ | ⟨i, e, e2, -⟩
    · cases e2
    · cases e2
      rw [e, Rd.bind_bad]

theorem blk_ok {l l1 x l3 : List UInt8} {n k : Nat} {ah : ByteArray} {done : List RecB} {s : Rd Unit} (hb : bndR 0 4 l = .ok n l1) (hn : n ≠ 0) (h : MidS n l1 k ah done s) (hk : (∃ l', s = .ok () l') → k = n) (ht : takeS 4 s = (x, .ok () l3)) :
    ∃ l2 d, s = .ok () l2 ∧ done = d.map recB ∧ l2.length ≤ l1.length ∧ blockR l = if x = checkL (l.take (l.length - l2.length)) then .ok d l3 else .bad l2.length := by
  rcases s with i | ⟨u, l2⟩
  · simp only [takeS, Prod.mk.injEq] at ht
    cases ht.2
  · obtain rfl := hk ⟨l2, rfl⟩
    obtain ⟨d, rfl, hm⟩ := h
    refine ⟨l2, d, rfl, rfl, hm.short, ?_⟩
    unfold blockR
    rw [hb, Rd.bind_ok, if_neg hn, hm.all_, Rd.bind_ok]
    unfold endR
    rcases takeS_ok ht with ⟨r, e, e2⟩ | ⟨i, e, e2, -⟩
    · cases e2
      rw [e, Rd.bind_ok]
    · cases e2

/-- what block leaves -/
def ScBlk (sb : Nat) (text : ByteArray) (l : List UInt8) (w : World) (e : Ending) (w' : World) : Prop := ∃ v x s, e = .returned v ∧ MadeX (· = sb) 31 3 RecB.cells w w' v x ∧ ScS w' sb text s ∧ BlkS (blockR l) x s

end Go.Proofs.YtkpaiaddikpdoaaGreatDoor
