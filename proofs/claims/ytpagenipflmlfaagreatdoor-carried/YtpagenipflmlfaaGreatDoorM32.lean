import Derived.Test.YtpagenipflmlfaaGreatDoorM31

/- stream.Chain: Add of the first stream. -/

namespace Go.Proofs.YtpagenipflmlfaaGreatDoor

open Go.RowKit Go.Shelf Go.ChangeMaps Go.MapKept

attribute [local go_sem] Oper.semAt_some

set_option maxRecDepth 100000 in
set_option maxHeartbeats 4000000 in
theorem chAdd_first (cb : Nat) (full : Bool) (a xb : Nat) (oa : Option Addr) (cap : Nat) (l : List RecB) (w : World) (h : ChNo w cb) (hr : Row w 147 3 (.slice oa l.length cap) l.length (recCs l)) (hl : l.length ≤ 1000) :
    Calls Tryz.prog 38 #[.pointer (some ⟨cb, 0, none⟩), .agg #[.bool full, .int .i64 (a : Nat), .int .i64 (xb : Nat), .slice oa l.length cap]] w (ChAddPost cb (fun j => j = cb) full a xb (l.foldl (chStep full) []) w) := by
  have hcb : cb < w.heap.size := (Array.getElem?_eq_some_iff.1 h).1
  have c0 := cell_of_heap h 0
  have c1 := cell_of_heap h 1
  have c2 := cell_of_heap h 2
  have c3 := cell_of_heap h 3
  have f0 := frozen_of_heap h 0
  have f1 := frozen_of_heap h 1
  have f2 := frozen_of_heap h 2
  have f3 := frozen_of_heap h 3
  simp at c0 c1 c2 c3
  have hq := eqCh_none
  have hmm := @run_makeMap Tryz.prog
  have HC := hid h
  have HR := hid hr
  have HL := hid hl
  have hlI : (l.length : Int) ≤ 1000 := by omega
  have hne : ¬ (cb = w.heap.size) := by omega
  have hne2 : ¬ (w.heap.size = cb) := by omega
  have hne3 : ¬ (cb = w.heap.size + 1) := by omega
  have hne4 : ¬ (w.heap.size + 1 = cb) := by omega
  clear h hr hl
  go_enter Tryz.func38, Tryz.ntmps38
  go_wp2_with fail
  have H5 : Hid (ChAt (((((((w.setCell ⟨cb, 0, none⟩ (.bool full)).setCell ⟨cb, 1, none⟩ (.int .i64 (a : Nat))).setCell ⟨cb, 2, none⟩ (.int .i64 0)).setCell ⟨cb, 3, none⟩ (.map (some (w.heap.size + 1)))).setCell ⟨cb, 2, none⟩ (.int .i64 (xb : Nat))).alloc (.cells #[.bool full, .int .i64 (a : Nat), .int .i64 (xb : Nat), .slice oa l.length cap] 84)).alloc (.map #[] 0)) cb (w.heap.size + 1) full a xb []) := by
    have hs : (((((w.setCell ⟨cb, 0, none⟩ (.bool full)).setCell ⟨cb, 1, none⟩ (.int .i64 (a : Nat))).setCell ⟨cb, 2, none⟩ (.int .i64 0)).setCell ⟨cb, 3, none⟩ (.map (some (w.heap.size + 1)))).setCell ⟨cb, 2, none⟩ (.int .i64 (xb : Nat))).heap[cb]? = some (.cells #[.bool full, .int .i64 (a : Nat), .int .i64 (xb : Nat), .map (some (w.heap.size + 1))] 92 (0, 0)) := by
      have e0 := heap_setCell_same (i := 0) HC.out (.bool full)
      have e1 := heap_setCell_same (i := 1) e0 (.int .i64 (a : Nat))
      have e2 := heap_setCell_same (i := 2) e1 (.int .i64 0)
      have e3 := heap_setCell_same (i := 3) e2 (.map (some (w.heap.size + 1)))
      have e4 := heap_setCell_same (i := 2) e3 (.int .i64 (xb : Nat))
      simpa using e4
    have kk := ((Keeps.refl (fun _ => False) (((((w.setCell ⟨cb, 0, none⟩ (.bool full)).setCell ⟨cb, 1, none⟩ (.int .i64 (a : Nat))).setCell ⟨cb, 2, none⟩ (.int .i64 0)).setCell ⟨cb, 3, none⟩ (.map (some (w.heap.size + 1)))).setCell ⟨cb, 2, none⟩ (.int .i64 (xb : Nat)))).al (.cells #[.bool full, .int .i64 (a : Nat), .int .i64 (xb : Nat), .slice oa l.length cap] 84)).al (.map #[] 0)
    refine ⟨(kk.block cb (Array.getElem?_eq_some_iff.1 hs).1 (fun h => h)).trans hs, ?_⟩
    have := MapAt.made Value.string ((((((w.setCell ⟨cb, 0, none⟩ (.bool full)).setCell ⟨cb, 1, none⟩ (.int .i64 (a : Nat))).setCell ⟨cb, 2, none⟩ (.int .i64 0)).setCell ⟨cb, 3, none⟩ (.map (some (w.heap.size + 1)))).setCell ⟨cb, 2, none⟩ (.int .i64 (xb : Nat))).alloc (.cells #[.bool full, .int .i64 (a : Nat), .int .i64 (xb : Nat), .slice oa l.length cap] 84))
    simpa [mapV] using this
  have HK5 : Hid (Keeps (fun j => j = cb) w (((((((w.setCell ⟨cb, 0, none⟩ (.bool full)).setCell ⟨cb, 1, none⟩ (.int .i64 (a : Nat))).setCell ⟨cb, 2, none⟩ (.int .i64 0)).setCell ⟨cb, 3, none⟩ (.map (some (w.heap.size + 1)))).setCell ⟨cb, 2, none⟩ (.int .i64 (xb : Nat))).alloc (.cells #[.bool full, .int .i64 (a : Nat), .int .i64 (xb : Nat), .slice oa l.length cap] 84)).alloc (.map #[] 0))) := (((((((Keeps.refl (fun j => j = cb) w).st (p := ⟨cb, 0, none⟩) (.inr rfl) _).st (p := ⟨cb, 1, none⟩) (.inr rfl) _).st (p := ⟨cb, 2, none⟩) (.inr rfl) _).st (p := ⟨cb, 3, none⟩) (.inr rfl) _).st (p := ⟨cb, 2, none⟩) (.inr rfl) _).al _).al _
  generalize ((((((w.setCell ⟨cb, 0, none⟩ (.bool full)).setCell ⟨cb, 1, none⟩ (.int .i64 (a : Nat))).setCell ⟨cb, 2, none⟩ (.int .i64 0)).setCell ⟨cb, 3, none⟩ (.map (some (w.heap.size + 1)))).setCell ⟨cb, 2, none⟩ (.int .i64 (xb : Nat))).alloc (.cells #[.bool full, .int .i64 (a : Nat), .int .i64 (xb : Nat), .slice oa l.length cap] 84)).alloc (.map #[] 0) = w5 at *
  obtain ⟨mb, hmb⟩ : ∃ mb, mb = w.heap.size + 1 := ⟨_, rfl⟩
  rw [← hmb] at H5
  have HMB : Hid (w.heap.size ≤ mb) := by show _ ≤ _; omega
  clear hmb
  have sa : 0 < l.length → ∃ g, oa = some ⟨g, 0, none⟩ := by
    obtain ⟨oa', ca', he, -, sa⟩ := HR.out.form
    cases he
    exact sa
  have SA := hid sa
  clear c0 c1 c2 c3 f0 f1 f2 f3 sa hne hne2 hne3 hne4
  go_loopw [39] (fun i wr => ∃ k : Nat, k ≤ l.length ∧ i = .int .i64 (k : Nat) ∧ ChAt wr cb mb full a xb ((l.take k).foldl (chStep full) []) ∧ Keeps (fun j => j = cb) w wr) (fun i _ => l.length - (intOf i).toNat)
  case atStart => exact ⟨0, Nat.zero_le _, rfl, H5.out, HK5.out⟩
  case round =>
    obtain ⟨k, hk, rfl, hC, hK⟩ := hrel
    have hkI : (k : Int) ≤ l.length := by omega
    have HCH := hid hC
    have HKK := hid hK
    by_cases hkl : k < l.length
    · obtain ⟨g, rfl⟩ := SA.out (by omega)
      have hrow : RecsAt wr (.slice (some ⟨g, 0, none⟩) l.length cap) l := HR.out.kept hK (fun g hg e => (HR.out.typeIs hg).ne (e' := 92) (by decide) ((show g = cb from e) ▸ ⟨_, HC.out⟩))
      obtain ⟨r0, r1, r2⟩ := rec_cells hrow k hkl
      have hklI : (k : Int) < l.length := by omega
      have htk : (l.take (k + 1)).foldl (chStep full) [] = chStep full ((l.take k).foldl (chStep full) []) l[k] := by rw [List.take_succ_eq_append_getElem hkl, List.foldl_append]; rfl
      have HTK := hid htk
      obtain ⟨y, hy⟩ : ∃ y, y = l[k] := ⟨_, rfl⟩
      rw [← hy] at r0 r1 r2 HTK
      obtain ⟨yk, yv, yg⟩ := y
      simp only at r0 r1 r2
      generalize (l.take k).foldl (chStep full) [] = N at *
      have ka : Keeps (fun _ => False) wr (wr.alloc (.cells #[.string yk, .string yv, .bool yg] 147)) := Keeps.alloc _ _ _
      have hA := hC.kept ka (fun h => h) (fun h => h)
      have t0 := cell_of_heap hA.top 0
      have t3 := cell_of_heap hA.top 3
      simp at t0 t3
      have HKL := hid hkl
      have hB := hA.kept ((Keeps.refl (fun _ => False) _).dr) (fun h => h) (fun h => h)
      have HFIN : Hid (∀ W o M', Keeps (fun _ => False) wr W → MapAt Value.string (setBlock W mb o) mb (mapV M') → ChAt (setBlock W mb o) cb mb full a xb M' ∧ Keeps (fun j => j = cb) w (setBlock W mb o)) := fun W o M' h1 h2 => ⟨HCH.out.set h1 h2, (HKK.out.tr h1 (fun _ h => h.elim)).trans (Keeps.setBlock W mb o) (fun k hk e => by have e' : k = mb := e; have := HMB.out; omega)⟩
      by_cases hfg : full = true ∧ yg = true
      · obtain ⟨rfl, rfl⟩ := hfg
        obtain ⟨o, ho1, ho2⟩ := hB.delete yk 0
        have HO := hid ho2
        have HCE : Hid (chStep true N ⟨yk, yv, true⟩ = del N yk) := rfl
        clear hC hK hrow htk hy hk hkl hA hB ho2 ka
        go_wp2_with fail
        go_region
        go_wp2
        have hf := HFIN.out _ o (del N yk) (((Keeps.refl (fun _ => False) wr).al _).dr) HO.out
        exact ⟨⟨k + 1, HKL.out, by go_num, by rw [HTK.out]; exact hf.1, hf.2⟩, by simp only [intOf]; have := HKL.out; omega⟩
      · obtain ⟨o, ho1, ho2⟩ := hB.update ⟨yk, yv, yg⟩
        have ho1' : (Instr.mapUpdate 90 (.map (some mb)) (.string yk) (.agg #[.string yk, .string yv, .bool yg])).run Tryz.prog (wr.alloc (.cells #[.string yk, .string yv, .bool yg] 147)).drew = .ok () (setBlock (wr.alloc (.cells #[.string yk, .string yv, .bool yg] 147)).drew mb o) := ho1
        have HO := hid ho2
        have HCE : Hid (chStep full N ⟨yk, yv, yg⟩ = put N yk ⟨yk, yv, yg⟩) := by
          show (if (full && yg) = true then _ else _) = _
          rw [if_neg (by rw [Bool.and_eq_true]; exact hfg)]
        have hcs : full = false ∨ (full = true ∧ yg = false) := by
          cases full with
          | false => exact .inl rfl
          | true =>
            cases yg with
            | false => exact .inr ⟨rfl, rfl⟩
            | true => exact absurd ⟨rfl, rfl⟩ hfg
        clear hC hK hrow htk hy hk hkl hA hB ho1 ho2 ka hfg
        rcases hcs with rfl | ⟨rfl, rfl⟩
        all_goals
          go_wp2_with fail
          go_region
          go_wp2
          have hf := HFIN.out _ o _ (((Keeps.refl (fun _ => False) wr).al _).dr) HO.out
          exact ⟨⟨k + 1, HKL.out, by go_num, by rw [HTK.out, HCE.out]; exact hf.1, hf.2⟩, by simp only [intOf]; have := HKL.out; omega⟩
    · have e : l.take k = l := List.take_of_length_le (by omega)
      rw [e] at HCH
      have hkn : ¬ ((k : Int) < l.length) := by omega
      clear hC hK e
      go_wp2
      go_ret
      exact ⟨rfl, mb, HCH.out, .inr HMB.out, HKK.out⟩

end Go.Proofs.YtpagenipflmlfaaGreatDoor

/- stream.Chain: its keys, sorted; Stream, what its loop keeps. -/

namespace Go.Proofs.YtpagenipflmlfaaGreatDoor

open Go.RowKit Go.Maps Go.Sort Go.Shelf

theorem mapV_keys (M : List (ByteArray × RecB)) : (mapV M).map (·.1) = M.map (·.1) := by
  unfold mapV
  rw [List.map_map]
  rfl

/-- slices.Sorted of maps.Keys of the chain's map -/
theorem keysR_any (mb : Nat) (M : List (ByteArray × RecB)) (w : World) (hm : MapAt Value.string w mb (mapV M)) (hk : ∀ p ∈ M, p.1.size ≤ maxLen) (hl : M.length ≤ 2000000000) :
    Calls Tryz.prog 76 #[.func (.func 120) #[] #[.pointer (some ⟨w.heap.size, 0, none⟩)]] (w.alloc (.cells #[.map (some mb)] 90)) fun e w' => ∃ v ks, e = .returned v ∧ Row w' 9 1 v ks.length (ks.map Value.string) ∧ Rises ks ∧ ks.Perm (M.map (·.1)) ∧ Keeps (fun _ => False) w w' := by
  have hnd := hm.nodup
  have hl' : (mapV M).length = M.length := List.length_map _
  obtain ⟨D, hD1, hD2, hD3⟩ := hm.owns (fun p hp => by
    obtain ⟨q, hq, rfl⟩ := List.mem_map.1 hp
    exact hk q hq) (by unfold maxLen; omega)
  refine (callsIn_wide.1 (Tryz.slices_Sorted_keys_76_77 mb (mapV M).length D _ w hD1 (by rw [hD3]; unfold maxLen; omega) (by rw [hD3]; omega))).mono ?_
  rintro e w' ⟨v, ss, rfl, hS, hrow, hnil, hb⟩
  have e1 : (mapV M).map (fun p => p.1.data.toList) = ((mapV M).map (·.1)).map (fun k => k.data.toList) := by rw [List.map_map]; rfl
  have hks : Rises (asKeys ss) := asKeys_rises ((hS.trans hD2).nodup_iff.2 (by
    rw [e1]
    exact nodup_map_inj (fun _ _ h => data_inj h) hnd))
  have hperm : (asKeys ss).Perm ((mapV M).map (·.1)) := asKeys_perm (by
    have := hS.trans hD2
    rwa [e1] at this)
  have hlen : (asKeys ss).length = ss.length := by simp [asKeys]
  refine ⟨v, asKeys ss, rfl, ?_, hks, by rw [← mapV_keys]; exact hperm, ((Keeps.refl _ w).al _).tr (Keeps.below hb) (fun _ h => h)⟩
  rw [hlen]
  have := row_of_owns hrow
  have e : (asKeys ss).map Value.string = (ss.mergeSort (fun x y => decide (x ≤ y))).map encStr := by simp [asKeys, Function.comp_def]
  rw [e]
  exact this

/-- between two keys -/
structure CsAt (w : World) (cb mb : Nat) (full : Bool) (a b : Nat) (M : List (ByteArray × RecB)) (xb : Nat) (v : Value) (l : List RecB) (wr : World) : Prop where
  ch : ChAt wr cb mb full a b M
  top : wr.heap[xb]? = some (.cells #[.bool full, .int .i64 (a : Nat), .int .i64 (b : Nat), v] 84 (0, 0))
  row : Row wr 147 3 v l.length (recCs l)
  own : ∀ g, v.ownBlock = some g → w.heap.size ≤ g
  res : ResZ wr w.heap.size
  keep : Keeps (fun _ => False) w wr
  xbw : w.heap.size < xb

theorem CsAt.quiet {w : World} {cb mb : Nat} {full : Bool} {a b : Nat} {M : List (ByteArray × RecB)} {xb : Nat} {v : Value} {l : List RecB} {wr wq : World} (h : CsAt w cb mb full a b M xb v l wr) (hk : Keeps (fun _ => False) wr wq) : CsAt w cb mb full a b M xb v l wq :=
  ⟨h.ch.kept hk (fun h => h) (fun h => h), (hk.block xb (Array.getElem?_eq_some_iff.1 h.top).1 (fun h => h)).trans h.top, h.row.kept hk (fun _ _ h => h), h.own, h.res.kept hk (fun h => h), h.keep.tr hk (fun _ h => h), h.xbw⟩

theorem CsAt.ne {w : World} {cb mb : Nat} {full : Bool} {a b : Nat} {M : List (ByteArray × RecB)} {xb : Nat} {v : Value} {l : List RecB} {wr : World} (h : CsAt w cb mb full a b M xb v l wr) : cb ≠ xb ∧ mb ≠ xb := by
  constructor
  · intro e
    exact TypeIs.ne (w := wr) (k := xb) (e := 84) (e' := 92) ⟨_, h.top⟩ (by decide) (e ▸ ⟨_, h.ch.top⟩)
  · intro e
    obtain ⟨es, clock, hb, -⟩ := h.ch.map
    rw [e, h.top] at hb
    cases hb

theorem CsAt.push {w : World} {cb mb : Nat} {full : Bool} {a b : Nat} {M : List (ByteArray × RecB)} {xb : Nat} {v v' : Value} {l : List RecB} {x : RecB} {wr W1 w4 : World} (h : CsAt w cb mb full a b M xb v l wr) (hW : Keeps (fun _ => False) wr W1) (hr : Row w4 147 3 v' (l.length + 1) (recCs l ++ x.cells)) (hg : W1.grownBy w4 v.ownBlock) (ho : v'.ownBlock = v.ownBlock ∨ v'.ownBlock = some W1.heap.size) :
    w4.heap[xb]? = some (.cells #[.bool full, .int .i64 (a : Nat), .int .i64 (b : Nat), v] 84 (0, 0)) ∧ CsAt w cb mb full a b M xb v' (l ++ [x]) (w4.setCell ⟨xb, 3, none⟩ v') := by
  have h0 := h.quiet hW
  have kg := Keeps.grown hg
  have hty : ∀ k, some k = v.ownBlock → TypeIs W1 k 147 := fun k e => h0.row.typeIs e.symm
  have h2 := h.xbw
  have hz := h0.keep.size
  have hne := h0.ne
  have top4 : w4.heap[xb]? = some (.cells #[.bool full, .int .i64 (a : Nat), .int .i64 (b : Nat), v] 84 (0, 0)) := (kg.block xb (Array.getElem?_eq_some_iff.1 h0.top).1 (fun e => (hty xb e).ne (e' := 84) (by decide) ⟨_, h0.top⟩)).trans h0.top
  have ks := Keeps.setCell w4 ⟨xb, 3, none⟩ v'
  refine ⟨top4, ?_⟩
  refine ⟨(h0.ch.kept kg (fun e => (Row.notCh h0.ch h0.row e.symm) (.inl rfl)) (fun e => (Row.notCh h0.ch h0.row e.symm) (.inr rfl))).kept ks (fun e => hne.1 e) (fun e => hne.2 e), (heap_setCell_same top4 _).trans (by simp), ?_, fun g hgv => ?_, ?_, ?_, h2⟩
  · have e : recCs (l ++ [x]) = recCs l ++ x.cells := by simp [recCs]
    rw [e, List.length_append, List.length_singleton]
    exact hr.kept ks (fun g hgv e => (hr.typeIs hgv).ne (e' := 84) (by decide) ((show g = xb from e) ▸ ⟨_, top4⟩))
  · rcases ho with e | e
    · exact h.own g (e ▸ hgv)
    · rw [hgv] at e
      have e' : g = W1.heap.size := by simpa using e
      omega
  · refine (h0.res.kept kg (fun e => (hty _ e).ne (e' := 84) (by decide) ⟨_, h0.res⟩)).kept ks (fun e => ?_)
    have e' : w.heap.size = xb := e
    omega
  · refine (h0.keep.trans kg (fun k hk e => ?_)).trans ks (fun k hk e => ?_)
    · have := h0.own k e.symm
      omega
    · have e' : k = xb := e
      omega

theorem results_cell_one {fn : Func} {p : Tmp} {ty : TypeId} (h : fn.results = #[.cell p ty]) (tmps : Array Value) (P : Program) (w : World) :
    (results fn tmps).run P w = ((asAddr (tmps.getD p undef)).run P w).andThen fun a w₁ => (loadVar ty a).run P w₁ := by
  simp only [results, h]
  simp [Sem.run_bind, Result.andThen]

/-- what Stream leaves -/
def CsPost (full : Bool) (a b : Nat) (M : List (ByteArray × RecB)) (w : World) (e : Ending) (w' : World) : Prop := ∃ ks l oa cap, e = .returned (.agg #[.bool full, .int .i64 (a : Nat), .int .i64 (b : Nat), .slice oa l.length cap]) ∧ Rises ks ∧ ks.Perm (M.map (·.1)) ∧ ks.map (look M) = l.map some ∧ Row w' 147 3 (.slice oa l.length cap) l.length (recCs l) ∧ Keeps (fun _ => False) w w'

end Go.Proofs.YtpagenipflmlfaaGreatDoor

/- stream.Chain: Stream, walked. -/

namespace Go.Proofs.YtpagenipflmlfaaGreatDoor

open Go.RowKit Go.Maps Go.Sort Go.Shelf Go.ChangeMaps Go.MapKept

attribute [local go_sem] Oper.semAt_some

theorem Tryz.zeroRec (w : World) : (zeroValue 147).run Tryz.prog w = .ok (.agg #[.string ⟨#[]⟩, .string ⟨#[]⟩, .bool false]) w := by kernel_rfl

theorem ChAt.lookup {w : World} {cb mb a b : Nat} {full : Bool} {M : List (ByteArray × RecB)} (h : ChAt w cb mb full a b M) {k : ByteArray} {r : RecB} (hk : look M k = some r) : (Instr.lookup 90 (.map (some mb)) (.string k) false).run Tryz.prog w = .ok (.agg #[.string r.key, .string r.value, .bool r.gone]) w := by
  have := h.map.lookup strKeyOk Tryz.underlying90 Tryz.underlying9 (Tryz.zeroRec w) k false
  rw [this]
  unfold mapV
  rw [look_map, hk]
  rfl

theorem perm_look {M : List (ByteArray × RecB)} (hn : (M.map (·.1)).Nodup) {ks : List ByteArray} (hp : ks.Perm (M.map (·.1))) : ∃ l : List RecB, ks.map (look M) = l.map some := by
  have h : ∀ k ∈ ks, ∃ r, look M k = some r := fun k hk => by
    obtain ⟨p, hp1, hp2⟩ := List.mem_map.1 (hp.mem_iff.1 hk)
    exact ⟨p.2, by rw [← hp2]; exact look_of_mem hn hp1⟩
  clear hp
  induction ks with
  | nil => exact ⟨[], rfl⟩
  | cons k ks ih =>
    obtain ⟨r, hr⟩ := h k (by simp)
    obtain ⟨l, hl⟩ := ih (fun k hk => h k (List.mem_cons_of_mem _ hk))
    exact ⟨r :: l, by rw [List.map_cons, List.map_cons, hr, hl]⟩

set_option maxRecDepth 100000 in
set_option maxHeartbeats 4000000 in
theorem chStream_any (cb mb : Nat) (full : Bool) (a b : Nat) (M : List (ByteArray × RecB)) (w : World) (h : ChAt w cb mb full a b M) (hk : ∀ p ∈ M, p.1.size ≤ maxLen) (hl : M.length ≤ 2000000000) :
    Calls Tryz.prog 40 #[.pointer (some ⟨cb, 0, none⟩)] w (CsPost full a b M w) := by
  obtain ⟨i0, hi, hz0, hz1, hz2⟩ := info_parts Tryz.infoRec
  have HND : Hid ((M.map (·.1)).Nodup) := by have := h.map.nodup; rw [mapV_keys] at this; exact this
  have HKE := hid (fun W (hW : ChAt W cb mb full a b M) => keysR_any mb M W hW.map hk hl)
  have HML := hid hl
  have HC := hid h
  have c0 := cell_of_heap h.top 0
  have c1 := cell_of_heap h.top 1
  have c2 := cell_of_heap h.top 2
  have c3 := cell_of_heap h.top 3
  simp at c0 c1 c2 c3
  have hcb : cb < w.heap.size := (Array.getElem?_eq_some_iff.1 h.top).1
  have hne : ¬ (cb = w.heap.size) := by omega
  clear h hk hl
  go_enter Tryz.func40, Tryz.ntmps40
  go_wp2_with fail
  go_region
  go_wp2_with fail
  have HS0 : Hid (CsAt w cb mb full a b M (w.heap.size + 1) (.slice none 0 0) [] ((w.alloc (.cells #[.bool false, .int .i64 0, .int .i64 0, .slice none 0 0] 84)).alloc (.cells #[.bool full, .int .i64 (a : Nat), .int .i64 (b : Nat), .slice none 0 0] 84)).drew) := by
    have ka := Keeps.alloc (fun _ => False) w (.cells #[.bool false, .int .i64 0, .int .i64 0, .slice none 0 0] 84)
    have kb := (Keeps.alloc (fun _ => False) (w.alloc (.cells #[.bool false, .int .i64 0, .int .i64 0, .slice none 0 0] 84)) (.cells #[.bool full, .int .i64 (a : Nat), .int .i64 (b : Nat), .slice none 0 0] 84)).dr
    have kc := ka.tr kb (fun _ h => h)
    refine ⟨HC.out.kept kc (fun h => h) (fun h => h), ?_, Row.nil _ _ _, fun g hg => (by cases hg), (kb.block _ (by simp) (fun h => h)).trans (heap_new w _), kc, by omega⟩
    have := heap_new (w.alloc (.cells #[.bool false, .int .i64 0, .int .i64 0, .slice none 0 0] 84)) (.cells #[.bool full, .int .i64 (a : Nat), .int .i64 (b : Nat), .slice none 0 0] 84)
    rw [World.size_alloc] at this
    exact this
  generalize ((w.alloc (.cells #[.bool false, .int .i64 0, .int .i64 0, .slice none 0 0] 84)).alloc (.cells #[.bool full, .int .i64 (a : Nat), .int .i64 (b : Nat), .slice none 0 0] 84)).drew = w2 at *
  generalize w.heap.size + 1 = xb at *
  refine (callsIn_wide.1 (Tryz.maps_Keys_77 (some mb) _)).mono ?_
  rintro e w3 ⟨rfl, rfl⟩
  go_wp2_with fail
  refine (HKE.out _ HS0.out.ch).mono ?_
  rintro e w4 ⟨v, ks, rfl, hrow, hris, hperm, k4⟩
  obtain ⟨ok, ck, rfl, hkm, sk⟩ := hrow.form
  have HS4 := hid (HS0.out.quiet k4)
  have HRK := hid hrow
  have HRI := hid hris
  have HPE := hid hperm
  have SK := hid sk
  obtain ⟨l, hll⟩ := perm_look HND.out hperm
  have HLL := hid hll
  have hlen : l.length = ks.length := by have := congrArg List.length hll; simpa using this.symm
  have hkl : ks.length ≤ 2000000000 := by have h1 := hperm.length_eq; rw [List.length_map] at h1; have := HML.out; omega
  have HLEN := hid hlen
  have HKL := hid hkl
  have hklI : (ks.length : Int) ≤ 2000000000 := by omega
  clear hrow hris hperm k4 sk hll hlen HS0 HKE c0 c1 c2 c3 hkm
  go_wp2_with fail
  go_loopw [26] (fun i wr => ∃ (k : Nat) (v2 : Value), k ≤ ks.length ∧ i = .int .i64 (k : Nat) ∧ CsAt w cb mb full a b M xb v2 (l.take k) wr ∧ Row wr 9 1 (.slice ok ks.length ck) ks.length (ks.map Value.string)) (fun i _ => ks.length - (intOf i).toNat)
  case atStart => exact ⟨0, _, Nat.zero_le _, rfl, HS4.out, HRK.out⟩
  case round =>
    obtain ⟨k, v2, hk, rfl, hS, hR⟩ := hrel
    have hkI : (k : Int) ≤ ks.length := by omega
    obtain ⟨o2, c2, rfl, -, -⟩ := hS.row.form
    by_cases hkx : k < ks.length
    · obtain ⟨gk, rfl⟩ := SK.out (by omega)
      have hk2 : k < l.length := by have := HLEN.out; omega
      have hlook : look M ks[k] = some l[k] := by
        have h1 := congrArg (fun z => z[k]?) HLL.out
        simp only [List.getElem?_map, List.getElem?_eq_getElem hkx, List.getElem?_eq_getElem hk2, Option.map_some] at h1
        exact Option.some.inj h1
      have r0 : wr.cell? ⟨gk, k, none⟩ = some (.string ks[k]) := by
        rw [hR.cellAt k (by omega), List.getElem?_map, List.getElem?_eq_getElem hkx]
        rfl
      have HTK : Hid (l.take (k + 1) = l.take k ++ [l[k]]) := List.take_succ_eq_append_getElem hk2
      have hlt : (l.take k).length = k := by rw [List.length_take]; omega
      obtain ⟨y, hy⟩ : ∃ y, y = l[k] := ⟨_, rfl⟩
      rw [← hy] at hlook HTK
      have hkxI : (k : Int) < ks.length := by omega
      have HS := hid hS
      have HR := hid hR
      have HKX := hid hkx
      generalize ks[k] = key at *
      have hal : (l.take k).length ≤ 2000000000 := by have := HKL.out; omega
      have HAL := hid hal
      clear hS hR hy
      generalize l.take k = al at *
      have halI : (al.length : Int) ≤ 2000000000 := by omega
      have hlk := (HS.out.ch.kept ((Keeps.refl (fun _ => False) wr).dr) (fun h => h) (fun h => h)).lookup hlook
      have t3 := cell_of_heap HS.out.top 3
      have d3 := cell_of_heap HS.out.ch.top 3
      simp at t3 d3
      have t4 := (Keeps.alloc (fun _ => False) wr (.cells #[.string y.key, .string y.value, .bool y.gone] 147)).cell t3 (fun h => h)
      clear hk hkx hk2 hal hlt hlook
      go_wp2_with fail
      go_region_law ((refine step_append_row _ (by rfl) _ _ 82 (by rfl) 147 i0 _ 3 40 Tryz.underlying82 hi hz0 hz1 hz2 (by rfl) (.slice o2 al.length c2) al.length _ (by rfl) (HS.out.row.kept ((Keeps.refl (fun _ => False) wr).al _).dr (fun _ _ h => h)) ⟨wr.heap.size, 0, none⟩ 1 1 [.string y.key, .string y.value, .bool y.gone] (by rfl) (by rfl) (news_arr wr #[.string y.key, .string y.value, .bool y.gone] _) (by simp [Value.oneCell']) (by have := HAL.out; unfold maxLen; omega) (by have := HAL.out; omega) ?_; intro v' w8 hown' hgrow _ hat; obtain ⟨g', cap', rfl⟩ := hown'.succ; have hp := HS.out.push (x := y) (((Keeps.refl (fun _ => False) wr).al _).dr) hown' hgrow hat; have q3 := cell_of_heap hp.1 3; have p3 := frozen_of_heap hp.1 3; simp at q3; have HP := hid hp.2; have HTP := hid hp.1; have HGW := hid hgrow; clear hown' hgrow hat hp))
      all_goals
        go_wp2
        have r1' := HR.out.kept (((Keeps.refl (fun _ => False) wr).al (.cells #[.string y.key, .string y.value, .bool y.gone] 147)).dr) (fun _ _ h => h)
        have r2' := r1'.kept (Keeps.grown HGW.out) (fun g hg e => (r1'.typeIs hg).ne (e' := 147) (by decide) ((HS.out.row.kept (((Keeps.refl (fun _ => False) wr).al _).dr) (fun _ _ h => h)).typeIs e.symm))
        exact ⟨⟨k + 1, _, HKX.out, by go_num, by rw [HTK.out]; exact HP.out, r2'.kept (Keeps.setCell w8 ⟨xb, 3, none⟩ _) (fun g hg e => (r2'.typeIs hg).ne (e' := 84) (by decide) ((show g = xb from e) ▸ ⟨_, HTP.out⟩))⟩, by simp only [intOf]; have := HKX.out; omega⟩
    · have hkn : ¬ ((k : Int) < ks.length) := by omega
      have e : l.take k = l := List.take_of_length_le (by have := HLEN.out; omega)
      rw [e] at hS
      have HS := hid hS
      obtain ⟨a0, a1, a2, a3, b0, b1, b2, b3, -, -, -, -⟩ := hS.res.facts
      have t0 := cell_of_heap hS.top 0
      have t1 := cell_of_heap hS.top 1
      have t2 := cell_of_heap hS.top 2
      have t3 := cell_of_heap hS.top 3
      simp at t0 t1 t2 t3
      clear hS hR e hkx hk
      generalize hln : l.length = len at *
      go_wp2
      refine bodyPost_ret (v := .agg #[.bool full, .int .i64 (a : Nat), .int .i64 (b : Nat), .slice o2 len c2]) ?_ rfl ?_
      · rw [results_cell_one rfl]
        go_simp
      · have h9 := HS.out.row
        rw [hln] at h9
        refine ⟨ks, l, o2, c2, by rw [hln], HRI.out, HPE.out, HLL.out, ?_, HS.out.keep.trans (four_set wr w.heap.size _ _ _ _) (fun k hk e => by have e' : k = w.heap.size := e; omega)⟩
        rw [hln]
        exact h9.kept (four_set wr w.heap.size _ _ _ _) (fun i hi e => (h9.typeIs hi).ne (e' := 84) (by decide) ⟨_, (show i = w.heap.size from e) ▸ HS.out.res⟩)

end Go.Proofs.YtpagenipflmlfaaGreatDoor

/- Merge, pure: what streams come to that follow each other. -/

namespace Go.Proofs.YtpagenipflmlfaaGreatDoor

open Go.RowKit Go.Shelf

/-- streams, one behind another -/
structure Chn where
  full : Bool
  a : Nat
  b : Nat
  M : List (ByteArray × RecB)
  L : List RecB
  follow : Bool

def Chn.first (s : Str) : Chn := ⟨s.full, s.a, s.b, (s.recs.map recB).foldl (chStep s.full) [], (s.recs.map recB).foldl placedL [], true⟩

abbrev Chn.goes (c : Chn) (s : Str) : Prop := s.full = false ∧ s.a = c.b

def Chn.add (c : Chn) (s : Str) : Chn := if c.follow = true ∧ c.goes s then ⟨c.full, c.a, s.b, (s.recs.map recB).foldl (chStep c.full) c.M, (s.recs.map recB).foldl placedL c.L, true⟩ else { c with follow := false }

def chStep1 (o : Option Chn) (s : Str) : Option Chn := match o with
  | none => some (.first s)
  | some c => some (c.add s)

def chn (ss : List Str) : Option Chn := ss.foldl chStep1 none

theorem chn_snoc (ss : List Str) (s : Str) : chn (ss ++ [s]) = chStep1 (chn ss) s := by unfold chn; rw [List.foldl_append]; rfl

theorem Chn.add_yes {c : Chn} {s : Str} (h : c.follow = true) (hg : c.goes s) : c.add s = ⟨c.full, c.a, s.b, (s.recs.map recB).foldl (chStep c.full) c.M, (s.recs.map recB).foldl placedL c.L, true⟩ := if_pos ⟨h, hg⟩

theorem Chn.add_no {c : Chn} {s : Str} (hg : ¬ (c.follow = true ∧ c.goes s)) : c.add s = { c with follow := false } := if_neg hg

/-- what holds of a chain of n streams -/
structure ChnOk (n : Nat) (c : Chn) : Prop where
  inv : InvC c.full c.M c.L
  keys : ∀ p ∈ c.M, p.1.size ≤ 1000
  few : c.M.length ≤ n * 1000
  fewL : c.L.length ≤ n * 1000
  small : ∀ r ∈ c.L, r.key.size ≤ 1000 ∧ r.value.size ≤ 1000

theorem chStep_len (full : Bool) (M : List (ByteArray × RecB)) (r : RecB) : (chStep full M r).length ≤ M.length + 1 := by
  unfold chStep
  split
  · have : ∀ (M : List (ByteArray × RecB)) k, (del M k).length ≤ M.length := by
      intro M k
      induction M with
      | nil => exact Nat.le_refl _
      | cons p M ih =>
        unfold del
        split
        · simp
        · simp; exact ih
    have := this M r.key
    omega
  · rw [length_put]
    split <;> omega

theorem chStep_keys (full : Bool) (M : List (ByteArray × RecB)) (hn : (M.map (·.1)).Nodup) (r : RecB) (h : ∀ p ∈ M, p.1.size ≤ 1000) (hr : r.key.size ≤ 1000) : ∀ p ∈ chStep full M r, p.1.size ≤ 1000 := by
  intro p hp
  unfold chStep at hp
  split at hp
  · rw [del_filter M hn] at hp
    exact h p (List.mem_filter.1 hp).1
  · have : ∀ (M : List (ByteArray × RecB)), p ∈ put M r.key r → p ∈ M ∨ p.1 = r.key := by
      intro M
      induction M with
      | nil => intro h; simp [put] at h; exact .inr (by rw [h])
      | cons q M ih =>
        intro h
        unfold put at h
        split at h
        · rcases List.mem_cons.1 h with h | h
          · exact .inr (by rw [h])
          · exact .inl (List.mem_cons_of_mem _ h)
        · rcases List.mem_cons.1 h with h | h
          · exact .inl (by rw [h]; simp)
          · rcases ih h with h | h
            · exact .inl (List.mem_cons_of_mem _ h)
            · exact .inr h
    rcases this M hp with h1 | h1
    · exact h p h1
    · rw [h1]; exact hr

theorem placed_len (L : List RecB) (r : RecB) : (placedL L r).length ≤ L.length + 1 := by
  rw [placedL_eq]
  have h1 := List.takeWhile_append_dropWhile (p := fun x : RecB => ltK x.key r.key) (l := L)
  have h2 := congrArg List.length h1
  rw [List.length_append] at h2
  have h3 := List.length_filter_le (fun x : RecB => decide (x.key ≠ r.key)) (L.dropWhile (fun x => ltK x.key r.key))
  rw [List.length_append, List.length_cons]
  omega

theorem placed_small {L : List RecB} {r : RecB} (h : ∀ x ∈ L, x.key.size ≤ 1000 ∧ x.value.size ≤ 1000) (hr : r.key.size ≤ 1000 ∧ r.value.size ≤ 1000) : ∀ x ∈ placedL L r, x.key.size ≤ 1000 ∧ x.value.size ≤ 1000 := by
  intro x hx
  rw [placedL_eq] at hx
  rcases List.mem_append.1 hx with h1 | h1
  · exact h x (mem_takeWhile h1).2
  · rcases List.mem_cons.1 h1 with h1 | h1
    · rw [h1]; exact hr
    · exact h x ((List.dropWhile_sublist _).mem (List.mem_filter.1 h1).1)

theorem ChnOk.steps {full : Bool} : ∀ (rs : List RecB) {M : List (ByteArray × RecB)} {L : List RecB} (N : Nat), InvC full M L → (∀ p ∈ M, p.1.size ≤ 1000) → M.length ≤ N → L.length ≤ N → (∀ r ∈ L, r.key.size ≤ 1000 ∧ r.value.size ≤ 1000) → (∀ r ∈ rs, r.key.size ≤ 1000 ∧ r.value.size ≤ 1000) →
    InvC full (rs.foldl (chStep full) M) (rs.foldl placedL L) ∧ (∀ p ∈ rs.foldl (chStep full) M, p.1.size ≤ 1000) ∧ (rs.foldl (chStep full) M).length ≤ N + rs.length ∧ (rs.foldl placedL L).length ≤ N + rs.length ∧ ∀ r ∈ rs.foldl placedL L, r.key.size ≤ 1000 ∧ r.value.size ≤ 1000
  | [], M, L, N, h1, h2, h3, h4, h5, _ => ⟨h1, h2, h3, h4, h5⟩
  | r :: rs, M, L, N, h1, h2, h3, h4, h5, h6 => by
    have hr := h6 r (by simp)
    have l1 := chStep_len full M r
    have l2 := placed_len L r
    have := ChnOk.steps rs (N + 1) (h1.step r) (chStep_keys full M h1.nodup r h2 hr.1) (by omega) (by omega) (placed_small h5 hr) (fun x hx => h6 x (List.mem_cons_of_mem _ hx))
    rw [List.foldl_cons, List.foldl_cons, List.length_cons]
    refine ⟨this.1, this.2.1, by have := this.2.2.1; omega, by have := this.2.2.2.1; omega, this.2.2.2.2⟩

/-- a stream that was read -/
def StrOk (s : Str) : Prop := s.recs.length ≤ 1000 ∧ ∀ r ∈ s.recs.map recB, r.key.size ≤ 1000 ∧ r.value.size ≤ 1000

theorem ChnOk.first {s : Str} (h : StrOk s) : ChnOk 1 (.first s) := by
  obtain ⟨h1, h2, h3, h4, h5⟩ := ChnOk.steps (full := s.full) (s.recs.map recB) 0 (InvC.zero s.full) (fun p hp => by cases hp) (Nat.le_refl _) (Nat.le_refl _) (fun p hp => by cases hp) h.2
  have hl := h.1
  rw [List.length_map] at h3 h4
  exact ⟨h1, h2, Nat.le_trans h3 (by omega), Nat.le_trans h4 (by omega), h5⟩

theorem ChnOk.add {n : Nat} {c : Chn} {s : Str} (hc : ChnOk n c) (h : StrOk s) : ChnOk (n + 1) (c.add s) := by
  by_cases hg : c.follow = true ∧ c.goes s
  · rw [Chn.add_yes hg.1 hg.2]
    obtain ⟨h1, h2, h3, h4, h5⟩ := ChnOk.steps (full := c.full) (s.recs.map recB) (n * 1000) hc.inv hc.keys hc.few hc.fewL hc.small h.2
    have hl := h.1
    rw [List.length_map] at h3 h4
    exact ⟨h1, h2, Nat.le_trans h3 (by omega), Nat.le_trans h4 (by omega), h5⟩
  · rw [Chn.add_no hg]
    exact ⟨hc.inv, hc.keys, Nat.le_trans hc.few (by omega), Nat.le_trans hc.fewL (by omega), hc.small⟩

theorem chn_ok : ∀ (n : Nat) (ss : List Str), ss.length = n → (∀ s ∈ ss, StrOk s) → ∀ c, chn ss = some c → ChnOk n c
  | 0, ss, hn, _, c, hc => by rw [List.eq_nil_of_length_eq_zero hn] at hc; cases hc
  | n + 1, ss, hn, h, c, hc => by
    have hne : ss ≠ [] := fun e => by rw [e] at hn; cases hn
    have e := List.dropLast_concat_getLast hne
    rw [← e, chn_snoc] at hc
    have hl : ss.dropLast.length = n := by rw [List.length_dropLast]; omega
    have hs : StrOk (ss.getLast hne) := h _ (List.getLast_mem hne)
    cases hq : chn ss.dropLast with
    | none =>
      rw [hq] at hc
      cases hc
      have h0 : n = 0 := by
        rcases Nat.eq_zero_or_pos n with h0 | h0
        · exact h0
        · exfalso
          have hne2 : ss.dropLast ≠ [] := fun e => by rw [e] at hl; simp at hl; omega
          rw [← List.dropLast_concat_getLast hne2, chn_snoc] at hq
          unfold chStep1 at hq
          split at hq <;> cases hq
      subst h0
      exact ChnOk.first hs
    | some d =>
      rw [hq] at hc
      cases hc
      exact (chn_ok n ss.dropLast hl (fun s hs => h s ((List.dropLast_sublist _).mem hs)) d hq).add hs

/-- what Encode says -/
def encR (full : Bool) (a b : Nat) (l : List RecB) : ByteArray × Nat := if judgeB full a b l = true then (ofL (streamL ⟨full, a, b, l.map RecB.rec_⟩), 0) else (⟨#[]⟩, 6)

def okS (t : ByteArray) : Option Str := match readO t.data.toList with
  | some (.inr s) => some s
  | _ => none

def mgS (ss : List Str) : ByteArray × Nat := match chn ss with
  | none => (⟨#[]⟩, 6)
  | some c => if c.follow = true then encR c.full c.a c.b (outC c.full c.L) else (⟨#[]⟩, 8)

/-- what Merge says -/
def mgR (ts : List ByteArray) : ByteArray × Nat := if ∀ t ∈ ts, (okS t).isSome = true then mgS (ts.filterMap okS) else (⟨#[]⟩, 6)

theorem mgR_bad {ts : List ByteArray} {k : Nat} (hk : k < ts.length) (h : okS ts[k] = none) : mgR ts = (⟨#[]⟩, 6) := by
  unfold mgR
  rw [if_neg]
  intro h2
  have := h2 ts[k] (List.getElem_mem hk)
  rw [h] at this
  cases this

theorem okS_take {ts : List ByteArray} {k : Nat} (hk : k < ts.length) {s : Str} (h : okS ts[k] = some s) : (ts.take (k + 1)).filterMap okS = (ts.take k).filterMap okS ++ [s] := by
  rw [List.take_succ_eq_append_getElem hk, List.filterMap_append]
  simp [h]

end Go.Proofs.YtpagenipflmlfaaGreatDoor

/- annals.Merge. -/

namespace Go.Proofs.YtpagenipflmlfaaGreatDoor

open Go.RowKit Go.Shelf

attribute [local go_sem] Oper.semAt_some

/-- texts, somewhere in a block -/
def TxtIn (w : World) (oa : Option Addr) (ts : List ByteArray) : Prop := ∀ i (h : i < ts.length), ∃ g off, oa = some ⟨g, off, none⟩ ∧ w.cell? ⟨g, off + i, none⟩ = some (.string ts[i])

theorem TxtIn.kept {w w' : World} {oa : Option Addr} {ts : List ByteArray} (h : TxtIn w oa ts) (hk : Keeps (fun _ => False) w w') : TxtIn w' oa ts := fun i hi => by
  obtain ⟨g, off, e, h1⟩ := h i hi
  exact ⟨g, off, e, hk.cell h1 (fun h => h)⟩

theorem okS_some {t : ByteArray} {s : Str} (h : readO t.data.toList = .ok s) : okS t = some s := by unfold okS; rw [h]

theorem okS_none {t : ByteArray} (h : ∀ s, readO t.data.toList ≠ .ok s) : okS t = none := by
  unfold okS
  rcases hx : readO t.data.toList with _ | p | s
  · rfl
  · rfl
  · exact absurd hx (h s)

theorem read_strOk {l : List UInt8} {s : Str} (h : readO l = .ok s) : StrOk s := by
  unfold readO at h
  split at h
  · cases h
  · split at h
    · split at h
      · cases h
      · split at h
        · rename_i hj
          cases h
          obtain ⟨-, -, h1, h2⟩ := judge_facts hj.1
          rw [List.length_map] at h1
          exact ⟨h1, h2⟩
        · cases h
    · cases h

/-- what Merge leaves -/
def MgPost (ts : List ByteArray) (w : World) (e : Ending) (w' : World) : Prop := e = .returned (.tuple #[.string (mgR ts).1, .int .i64 ((mgR ts).2 : Nat)]) ∧ Keeps (fun _ => False) w w'

/-- between two texts -/
structure MgAt (w : World) (cb : Nat) (ts : List ByteArray) (k : Nat) (fl : Bool) (wr : World) : Prop where
  le : k ≤ ts.length
  oks : ∀ t ∈ ts.take k, (okS t).isSome = true
  keep : Keeps (fun _ => False) w wr
  cbw : w.heap.size ≤ cb
  strs : ∀ s ∈ (ts.take k).filterMap okS, StrOk s
  st : match chn ((ts.take k).filterMap okS) with
    | none => fl = true ∧ ChNo wr cb
    | some c => fl = c.follow ∧ (c.follow = true → ∃ mb, w.heap.size ≤ mb ∧ ChAt wr cb mb c.full c.a c.b c.M)

theorem filterMap_len {α β : Type} {f : α → Option β} : ∀ {l : List α}, (∀ t ∈ l, (f t).isSome = true) → (l.filterMap f).length = l.length
  | [], _ => rfl
  | a :: l, h => by
    obtain ⟨b, hb⟩ := Option.isSome_iff_exists.1 (h a (by simp))
    rw [List.filterMap_cons, hb]
    simp [filterMap_len (fun t ht => h t (List.mem_cons_of_mem _ ht))]

theorem MgAt.next {w : World} {cb : Nat} {ts : List ByteArray} {k : Nat} {fl fl' : Bool} {wr wq : World} {s : Str} (h : MgAt w cb ts k fl wr) (hk : k < ts.length) (hs : readO ts[k].data.toList = .ok s) (hkeep : Keeps (fun _ => False) w wq)
    (hst : match chStep1 (chn ((ts.take k).filterMap okS)) s with | none => fl' = true ∧ ChNo wq cb | some c => fl' = c.follow ∧ (c.follow = true → ∃ mb, w.heap.size ≤ mb ∧ ChAt wq cb mb c.full c.a c.b c.M)) : MgAt w cb ts (k + 1) fl' wq := by
  have e := okS_take hk (okS_some hs)
  refine ⟨hk, fun t ht => ?_, hkeep, h.cbw, fun x hx => ?_, ?_⟩
  · rw [List.take_succ_eq_append_getElem hk] at ht
    rcases List.mem_append.1 ht with ht | ht
    · exact h.oks t ht
    · rw [List.mem_singleton.1 ht, okS_some hs]
      rfl
  · rw [e] at hx
    rcases List.mem_append.1 hx with hx | hx
    · exact h.strs x hx
    · rw [List.mem_singleton.1 hx]
      exact read_strOk hs
  · rw [e, chn_snoc]
    exact hst

/-- at its end -/
theorem MgAt.all {w : World} {cb : Nat} {ts : List ByteArray} {fl : Bool} {wr : World} (h : MgAt w cb ts ts.length fl wr) : mgR ts = mgS (ts.filterMap okS) := by
  have h1 := h.oks
  rw [List.take_of_length_le (Nat.le_refl _)] at h1
  unfold mgR
  rw [if_pos h1]

end Go.Proofs.YtpagenipflmlfaaGreatDoor
