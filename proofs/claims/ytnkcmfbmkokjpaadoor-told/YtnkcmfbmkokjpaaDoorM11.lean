import Derived.Test.YtnkcmfbmkokjpaaDoorM10
import Derived.Laws.ResultCell

/- stream, walked. -/
namespace Go.Proofs.YtnkcmfbmkokjpaaDoor
open Go.RowKit Go.Shelf

attribute [local go_sem] Oper.semAt_some

/-- within a key's round: the record lies at rb -/
def RecMid (full : Bool) (k : Int) (rb : Nat) (W0 : World) (t : Bool) (wr : World) : Prop := ∃ r : RecB, wr.heap[rb]? = some (.cells #[.string r.key, .string r.value, .bool r.gone] 33 (0, 0)) ∧ RecOk full k t r ∧ Keeps (· = rb) W0 wr

theorem mid_set3 {full : Bool} {k : Int} {rb : Nat} {W0 wr : World} {x y z : Value} {rk rv : ByteArray} {rg : Bool} (hr : wr.heap[rb]? = some (.cells #[x, y, z] 33 (0, 0))) (hk : Keeps (· = rb) W0 wr) (ok : RecOk full k true ⟨rk, rv, rg⟩) :
    RecMid full k rb W0 true (((wr.setCell ⟨rb, 0, none⟩ (.string rk)).setCell ⟨rb, 1, none⟩ (.string rv)).setCell ⟨rb, 2, none⟩ (.bool rg)).drew :=
  ⟨⟨rk, rv, rg⟩, heap_set3 hr _ _ _, ok, (((hk.tr (Keeps.setCell wr ⟨rb, 0, none⟩ _) (fun _ h => h)).tr (Keeps.setCell _ ⟨rb, 1, none⟩ _) (fun _ h => h)).tr (Keeps.setCell _ ⟨rb, 2, none⟩ _) (fun _ h => h)).dr⟩
theorem heap_set12 {w : World} {b : Nat} {x y z : Value} {e : TypeId} (h : w.heap[b]? = some (.cells #[x, y, z] e (0, 0))) (u v : Value) : ((w.setCell ⟨b, 1, none⟩ u).setCell ⟨b, 2, none⟩ v).heap[b]? = some (.cells #[x, u, v] e (0, 0)) := by
  have h1 := heap_setCell_same (i := 1) h u
  have h2 := heap_setCell_same (i := 2) h1 v
  simpa using h2

theorem mid_set5 {full : Bool} {k : Int} {rb : Nat} {W0 wr : World} {x y z : Value} {u0 u1 u2 : Value} {rk rv : ByteArray} {rg : Bool} (h0 : u0 = .string rk) (hr : wr.heap[rb]? = some (.cells #[x, y, z] 33 (0, 0))) (hk : Keeps (· = rb) W0 wr) (ok : RecOk full k true ⟨rk, rv, rg⟩) :
    RecMid full k rb W0 true (((((wr.setCell ⟨rb, 0, none⟩ u0).setCell ⟨rb, 1, none⟩ u1).setCell ⟨rb, 2, none⟩ u2).setCell ⟨rb, 1, none⟩ (.string rv)).setCell ⟨rb, 2, none⟩ (.bool rg)).drew := by
  subst h0
  have h3 := heap_set3 hr (.string rk) u1 u2
  have h5 := heap_set12 h3 (.string rv) (.bool rg)
  have hd : ∀ X : World, X.drew.heap = X.heap := fun _ => rfl
  refine ⟨⟨rk, rv, rg⟩, by rw [hd]; exact h5, ok, (((((hk.tr (Keeps.setCell wr ⟨rb, 0, none⟩ _) (fun _ h => h)).tr (Keeps.setCell _ ⟨rb, 1, none⟩ _) (fun _ h => h)).tr (Keeps.setCell _ ⟨rb, 2, none⟩ _) (fun _ h => h)).tr (Keeps.setCell _ ⟨rb, 1, none⟩ _) (fun _ h => h)).tr (Keeps.setCell _ ⟨rb, 2, none⟩ _) (fun _ h => h)).dr⟩

theorem empty_is : (ByteArray.mk #[]).toList.isEmpty = true := by decide +kernel

/-- a key's round turns the record alone -/
theorem str_move {w V wr : World} {cs : Array Value} {oa : Option Addr} {cap : Nat} {l : List RecB} (hx : V.heap[w.heap.size + 1]? = some (.cells cs 25 (0, 0))) (hrow : Row V 33 3 (.slice oa l.length cap) l.length (recCs l)) (hrz : ResZ V w.heap.size) (hkp : Keeps (fun _ => False) w V) (kv : Keeps (· = V.heap.size) V wr) :
    wr.heap[w.heap.size + 1]? = some (.cells cs 25 (0, 0)) ∧ Row wr 33 3 (.slice oa l.length cap) l.length (recCs l) ∧ ResZ wr w.heap.size ∧ Keeps (fun _ => False) w wr := by
  have h1 := (Array.getElem?_eq_some_iff.1 hx).1
  refine ⟨(kv.block _ h1 (fun e => by have e' : w.heap.size + 1 = V.heap.size := e; omega)).trans hx, hrow.kept kv (fun g hg e => by have e' : g = V.heap.size := e; have := hrow.lt hg; omega), hrz.kept kv (fun e => by have e' : w.heap.size = V.heap.size := e; omega), hkp.trans kv (fun i hi e => by have e' : i = V.heap.size := e; omega)⟩

/-- the new list in its place -/
theorem str_put {w W : World} {x y z u : Value} {oa : Option Addr} {cap n : Nat} {xs : List Value} (hx : W.heap[w.heap.size + 1]? = some (.cells #[x, y, z, u] 25 (0, 0))) (hrow : Row W 33 3 (.slice oa n cap) n xs) (hrz : ResZ W w.heap.size) (hkp : Keeps (fun _ => False) w W) (v : Value) :
    (W.setCell ⟨w.heap.size + 1, 3, none⟩ v).heap[w.heap.size + 1]? = some (.cells #[x, y, z, v] 25 (0, 0)) ∧ Row (W.setCell ⟨w.heap.size + 1, 3, none⟩ v) 33 3 (.slice oa n cap) n xs ∧ ResZ (W.setCell ⟨w.heap.size + 1, 3, none⟩ v) w.heap.size ∧ Keeps (fun _ => False) w (W.setCell ⟨w.heap.size + 1, 3, none⟩ v) := by
  have ks := Keeps.setCell W ⟨w.heap.size + 1, 3, none⟩ v
  refine ⟨by simpa using heap_setCell_same (i := 3) hx v, hrow.kept ks (fun g hg e => (hrow.typeIs hg).ne (e' := 25) (by decide) ⟨_, (show g = w.heap.size + 1 from e) ▸ hx⟩), hrz.kept ks (fun e => by have e' : w.heap.size = w.heap.size + 1 := e; omega), hkp.trans ks (fun i hi e => by have e' : i = w.heap.size + 1 := e; omega)⟩

theorem results_cell_one {fn : Func} {p : Tmp} {ty : TypeId} (h : fn.results = #[.cell p ty]) (tmps : Array Value) (P : Program) (w : World) :
    (results fn tmps).run P w = ((asAddr (tmps.getD p undef)).run P w).andThen fun a w₁ => (loadVar ty a).run P w₁ := by
  simp only [results, h]
  simp [Sem.run_bind, Result.andThen]

set_option maxRecDepth 100000 in
set_option maxHeartbeats 4000000 in
theorem stream_false (oa : Option Addr) (n cap : Nat) (S : Nat → RawStep) (frm to_ : Int) (w : World) (hS : StepsAt w oa n S) (hn : n ≤ maxLen) (hfr : -9223372036854775808 ≤ frm ∧ frm ≤ 9223372036854775807) (hto : -9223372036854775808 ≤ to_ ∧ to_ ≤ 9223372036854775807) :
    Calls Tryd.prog 4 #[.slice oa n cap, .bool false, .int .i64 frm, .int .i64 to_] w (StreamPost false (pickZ frm 1000) (pickZ frm 1000 + 1 + pickZ to_ 1000000) w) := by
  have HP1 := hid (fun W => pick_any to_ 1000000 W hto (by omega))
  have HP2 := hid (fun W => pick_any frm 1000 W hfr (by omega))
  obtain ⟨b0, b1⟩ := pick_lt to_ (n := 1000000) (by omega)
  obtain ⟨a0, a1⟩ := pick_lt frm (n := 1000) (by omega)
  generalize pickZ to_ 1000000 = pt at *
  generalize pickZ frm 1000 = pf at *
  have HS := hid hS
  unfold maxLen at hn
  have hnI : (n : Int) ≤ 9223372036854775807 := by omega
  clear hS hfr hto hn
  go_enter Tryd.func4, Tryd.ntmps4
  go_wp2_with fail
  refine (HP1.out _).mono ?_
  rintro e w1 ⟨rfl, rfl⟩
  go_wp2_with fail
  refine (HP2.out _).mono ?_
  rintro e w1 ⟨rfl, rfl⟩
  clear HP1 HP2
  go_wp2_with fail
  go_loopw [10] (fun i wr => ∃ k : Int, 0 ≤ k ∧ k ≤ 12 ∧ i = .int .i64 k ∧ StrInv w false pf (pf + 1 + pt) k wr) (fun i _ => (12 - intOf i).toNat)
  case atStart => exact ⟨0, by omega, by omega, rfl, [], none, 0, by simpa using heap_new (w.alloc (.cells #[.bool false, .int .i64 0, .int .i64 0, .slice none 0 0] 25)) _, Row.nil _ _ _, ⟨List.Pairwise.nil, by simp, by simp⟩, (Below.heap_alloc _ _ _ (by simp)).trans (heap_new w _), ((Keeps.refl (fun _ => False) w).al _).al _⟩
  case round =>
    obtain ⟨k, hk0, hk1, rfl, l, ob, cb, hx, hrow, hgd, hrz, hkp⟩ := hrel
    by_cases hlt : k < 12
    · obtain ⟨V, hV⟩ : ∃ V, V = wr := ⟨_, rfl⟩
      subst hV
      have HXX := hid hx
      have HROW := hid hrow
      have HGD := hid hgd
      have HRZ := hid hrz
      have HKP := hid hkp
      have HSV := hid (HS.out.kept hkp)
      have hxl := (Array.getElem?_eq_some_iff.1 hx).1
      have HXL := hid hxl
      clear hx hrow hgd hrz hkp hxl
      go_wp2_with fail
      go_loopw [11, 13] (fun t i W => ∃ (j : Nat) (tb : Bool), j ≤ n ∧ t = .bool tb ∧ i = .int .i64 j ∧ RecMid false k V.heap.size (V.alloc (.cells #[.string ⟨#[]⟩, .string ⟨#[]⟩, .bool false] 33)) tb W) (fun _ i _ => n - (intOf i).toNat)
      case atStart => exact ⟨0, false, Nat.zero_le _, rfl, rfl, ⟨⟨#[]⟩, ⟨#[]⟩, false⟩, heap_new V _, fun h => (by cases h), Keeps.refl _ _⟩
      case round =>
        obtain ⟨j, tb, hj, rfl, rfl, ⟨rk, rv, rg⟩, hr, hok, hkr⟩ := hrel
        have kv : Keeps (· = V.heap.size) V wr := ((Keeps.refl (· = V.heap.size) V).al _).trans hkr (fun _ _ h => h)
        obtain ⟨r0, r1, r2, f0, f1, f2⟩ := three_cells hr
        have hjI : (j : Int) ≤ n := by omega
        by_cases hjn : j < n
        · obtain ⟨sb, off, rfl, hsb, c0, c1, c2, d0, d1, d2⟩ := HSV.out j hjn
          have c0 := kv.cell c0 (fun e => by have e' : sb = V.heap.size := e; omega)
          have c1 := kv.cell c1 (fun e => by have e' : sb = V.heap.size := e; omega)
          have c2 := kv.cell c2 (fun e => by have e' : sb = V.heap.size := e; omega)
          have hjnI : (j : Int) < n := by omega
          have HP3 := hid (fun W => pick_any (S j).key 12 W d1 (by omega))
          have HP4 := hid (fun W => pick_any (S j).what 3 W d0 (by omega))
          have HCUT := hid (fun W => cut_any (S j).value W d2)
          generalize (S j).key = key at *
          generalize (S j).what = what at *
          generalize (S j).value = val at *
          have HKR := hid hkr
          have HR := hid hr
          have HOK := hid hok
          have HSB := hid hsb
          clear hkr hr hok d0 d1 d2 kv hsb hj
          generalize pickZ key 12 = q at *
          generalize pickZ what 3 = q3 at *
          by_cases hq : q = k
          · subst hq
            go_wp2_with fail
            refine (HP3.out _).mono ?_
            rintro e w1 ⟨rfl, rfl⟩
            clear HP3
            have hw1 : IntKind.i64.wrap (q + 1) = q + 1 := IntWalk.i64_in _ ⟨by omega, by omega⟩
            have ht3 : q.tdiv 3 = q / 3 := Int.tdiv_eq_ediv_of_nonneg hk0
            have hw3 : IntKind.i64.wrap (q / 3) = q / 3 := IntWalk.i64_in _ ⟨by omega, by omega⟩
            have g0 : 0 ≤ q / 3 := by omega
            have g1 : q / 3 ≤ 6 := by omega
            have g2 : q ≤ q + 1 := by omega
            have g3 : q + 1 ≤ 12 := by omega
            have g4 : 0 ≤ q + 1 := by omega
            have hadd : ∀ W, (Op.stringOp .add ((ByteArray.mk #[99, 111, 109, 109, 111, 110]).extract 0 (q / 3).toNat) ((ByteArray.mk #[97, 98, 99, 100, 101, 102, 103, 104, 105, 106, 107, 108]).extract q.toNat (q + 1).toNat)).run Tryd.prog W = .ok (.string ((ByteArray.mk #[99, 111, 109, 109, 111, 110]).extract 0 (q / 3).toNat ++ (ByteArray.mk #[97, 98, 99, 100, 101, 102, 103, 104, 105, 106, 107, 108]).extract q.toNat (q + 1).toNat)) W := fun W => run_string_add_sum W _ _ (by rw [ByteArray.size_extract, ByteArray.size_extract]; omega)
            have n1 : ¬ sb = V.heap.size := by have := HSB.out; omega
            have n2 : ¬ V.heap.size = sb := by have := HSB.out; omega
            go_wp2_with fail
            go_region_held3 (fun W => W.cell? ⟨sb, off + j * 3 + 2, none⟩ = some (.string val)) (go_keep) (first | (go_at_call 8; refine (HCUT.out _).mono ?_; rintro e w2 ⟨rfl, rfl⟩))
            go_wp2_with fail
            refine (HP4.out _).mono ?_
            rintro e w2 ⟨rfl, rfl⟩
            clear HP4
            by_cases h3 : q3 = 0
            · subst h3
              go_wp2
              exact ⟨⟨j + 1, true, hjn, rfl, by go_num, mid_set5 rfl HR.out HKR.out (fun _ => ⟨rfl, rfl, fun _ => ⟨rfl, empty_is⟩⟩)⟩, by simp only [intOf]; omega⟩
            · go_wp2
              exact ⟨⟨j + 1, true, hjn, rfl, by go_num, mid_set3 HR.out HKR.out (fun _ => ⟨rfl, val_cut val, fun h => by cases h⟩)⟩, by simp only [intOf]; omega⟩
          · go_wp2_with fail
            refine (HP3.out _).mono ?_
            rintro e w1 ⟨rfl, rfl⟩
            clear HP3
            go_wp2
            exact ⟨⟨j + 1, tb, hjn, rfl, by go_num, ⟨⟨rk, rv, rg⟩, HR.out, HOK.out, HKR.out⟩⟩, by simp only [intOf]; omega⟩
        · have hnI2 : ¬ ((j : Int) < n) := by omega
          have HKV := hid kv
          have HR := hid hr
          have HOK := hid hok
          clear kv hr hok hkr hjn
          obtain ⟨hx2, hrow2, hrz2, hkp2⟩ := str_move HXX.out HROW.out HRZ.out HKP.out HKV.out
          have x3 := cell_of_heap hx2 3
          have y3 := frozen_of_heap hx2 3
          simp at x3
          obtain ⟨r0, r1, r2, -, -, -⟩ := three_cells HR.out
          have HX2 := hid hx2
          have HROW2 := hid hrow2
          have HRZ2 := hid hrz2
          have HKP2 := hid hkp2
          clear hx2 hrow2 hrz2 hkp2
          cases tb with
          | false =>
            go_wp2
            exact ⟨⟨k + 1, by omega, by omega, rfl, l, ob, cb, HX2.out, HROW2.out, HGD.out.more hk0, HRZ2.out, HKP2.out⟩, by simp only [intOf]; omega⟩
          | true =>
            have HLL : Hid (l.length < 1000) := by have := HGD.out.2.2; show _ < _; omega
            go_wp2_with fail
            refine (sorted_any (.slice ob l.length cb) l ⟨rk, rv, rg⟩ wr HROW2.out HLL.out).mono ?_
            rintro e w2 ⟨v', o, rfl, hins, hmade⟩
            obtain ⟨oc, cc, rfl, -, -⟩ := hmade.row.form
            have hx4 := (hmade.keep.block _ (Array.getElem?_eq_some_iff.1 HX2.out).1 (fun h => h)).trans HX2.out
            have x4 := cell_of_heap hx4 3
            have y4 := frozen_of_heap hx4 3
            simp at x4
            obtain ⟨q1, q2, q3, q4⟩ := str_put hx4 hmade.row (HRZ2.out.kept hmade.keep (fun h => h)) (HKP2.out.tr hmade.keep (fun _ h => h)) (.slice oc o.length cc)
            have hfit : RecFit false (k + 1) ⟨rk, rv, rg⟩ := by
              obtain ⟨e1, e2, e3⟩ := HOK.out rfl
              exact ⟨⟨k, hk0, by omega, e1⟩, e2, e3⟩
            have Q1 := hid q1
            have Q2 := hid q2
            have Q3 := hid q3
            have Q4 := hid q4
            have HG2 := hid (HGD.out.put hk0 hlt hfit (HOK.out rfl).1 hins)
            clear hmade hx4 x3 y3 q1 q2 q3 q4 hins hfit
            go_wp2
            exact ⟨⟨k + 1, by omega, by omega, rfl, o, oc, cc, Q1.out, Q2.out, HG2.out, Q3.out, Q4.out⟩, by simp only [intOf]; omega⟩
    · have e : k = 12 := by omega
      subst e
      obtain ⟨z0, z1, z2, z3, f0, f1, f2, f3, -, -, -, -⟩ := hrz.facts
      have x0 := cell_of_heap hx 0
      have x1 := cell_of_heap hx 1
      have x2 := cell_of_heap hx 2
      have x3 := cell_of_heap hx 3
      simp at x0 x1 x2 x3
      have HROW := hid hrow
      have HGD := hid hgd
      have HRZ := hid hrz
      have HKP := hid hkp
      clear hx hrow hgd hrz hkp hlt
      generalize hlen : l.length = len at *
      go_wp2
      refine bodyPost_ret (v := .agg #[.bool false, .int .i64 pf, .int .i64 (pf + 1 + pt), .slice ob len cb]) ?_ rfl ?_
      · rw [results_cell_one rfl]
        go_simp
      · refine ⟨l, ob, cb, by rw [hlen], ?_, HGD.out, HKP.out.trans (four_set wr w.heap.size _ _ _ _) (fun i hi e => by have e' : i = w.heap.size := e; omega)⟩
        rw [hlen]
        exact HROW.out.kept (four_set wr w.heap.size _ _ _ _) (fun g hg e => (HROW.out.typeIs hg).ne (e' := 25) (by decide) ⟨_, (show g = w.heap.size from e) ▸ HRZ.out⟩)

set_option maxRecDepth 100000 in
set_option maxHeartbeats 4000000 in
theorem stream_true (oa : Option Addr) (n cap : Nat) (S : Nat → RawStep) (frm to_ : Int) (w : World) (hS : StepsAt w oa n S) (hn : n ≤ maxLen) (hfr : -9223372036854775808 ≤ frm ∧ frm ≤ 9223372036854775807) (hto : -9223372036854775808 ≤ to_ ∧ to_ ≤ 9223372036854775807) :
    Calls Tryd.prog 4 #[.slice oa n cap, .bool true, .int .i64 frm, .int .i64 to_] w (StreamPost true 0 (pickZ to_ 1000000) w) := by
  have HP1 := hid (fun W => pick_any to_ 1000000 W hto (by omega))
  have HP2 := hid (fun W => pick_any frm 1000 W hfr (by omega))
  obtain ⟨b0, b1⟩ := pick_lt to_ (n := 1000000) (by omega)
  obtain ⟨a0, a1⟩ := pick_lt frm (n := 1000) (by omega)
  generalize pickZ to_ 1000000 = pt at *
  generalize pickZ frm 1000 = pf at *
  have HS := hid hS
  unfold maxLen at hn
  have hnI : (n : Int) ≤ 9223372036854775807 := by omega
  clear hS hfr hto hn
  go_enter Tryd.func4, Tryd.ntmps4
  go_wp2_with fail
  refine (HP1.out _).mono ?_
  rintro e w1 ⟨rfl, rfl⟩
  clear HP1 HP2
  go_wp2_with fail
  go_loopw [10] (fun i wr => ∃ k : Int, 0 ≤ k ∧ k ≤ 12 ∧ i = .int .i64 k ∧ StrInv w true 0 pt k wr) (fun i _ => (12 - intOf i).toNat)
  case atStart => exact ⟨0, by omega, by omega, rfl, [], none, 0, by simpa using heap_new (w.alloc (.cells #[.bool false, .int .i64 0, .int .i64 0, .slice none 0 0] 25)) _, Row.nil _ _ _, ⟨List.Pairwise.nil, by simp, by simp⟩, (Below.heap_alloc _ _ _ (by simp)).trans (heap_new w _), ((Keeps.refl (fun _ => False) w).al _).al _⟩
  case round =>
    obtain ⟨k, hk0, hk1, rfl, l, ob, cb, hx, hrow, hgd, hrz, hkp⟩ := hrel
    by_cases hlt : k < 12
    · obtain ⟨V, hV⟩ : ∃ V, V = wr := ⟨_, rfl⟩
      subst hV
      have HXX := hid hx
      have HROW := hid hrow
      have HGD := hid hgd
      have HRZ := hid hrz
      have HKP := hid hkp
      have HSV := hid (HS.out.kept hkp)
      have hxl := (Array.getElem?_eq_some_iff.1 hx).1
      have HXL := hid hxl
      clear hx hrow hgd hrz hkp hxl
      go_wp2_with fail
      go_loopw [11, 13] (fun t i W => ∃ (j : Nat) (tb : Bool), j ≤ n ∧ t = .bool tb ∧ i = .int .i64 j ∧ RecMid true k V.heap.size (V.alloc (.cells #[.string ⟨#[]⟩, .string ⟨#[]⟩, .bool false] 33)) tb W) (fun _ i _ => n - (intOf i).toNat)
      case atStart => exact ⟨0, false, Nat.zero_le _, rfl, rfl, ⟨⟨#[]⟩, ⟨#[]⟩, false⟩, heap_new V _, fun h => (by cases h), Keeps.refl _ _⟩
      case round =>
        obtain ⟨j, tb, hj, rfl, rfl, ⟨rk, rv, rg⟩, hr, hok, hkr⟩ := hrel
        have kv : Keeps (· = V.heap.size) V wr := ((Keeps.refl (· = V.heap.size) V).al _).trans hkr (fun _ _ h => h)
        obtain ⟨r0, r1, r2, f0, f1, f2⟩ := three_cells hr
        have hjI : (j : Int) ≤ n := by omega
        by_cases hjn : j < n
        · obtain ⟨sb, off, rfl, hsb, c0, c1, c2, d0, d1, d2⟩ := HSV.out j hjn
          have c0 := kv.cell c0 (fun e => by have e' : sb = V.heap.size := e; omega)
          have c1 := kv.cell c1 (fun e => by have e' : sb = V.heap.size := e; omega)
          have c2 := kv.cell c2 (fun e => by have e' : sb = V.heap.size := e; omega)
          have hjnI : (j : Int) < n := by omega
          have HP3 := hid (fun W => pick_any (S j).key 12 W d1 (by omega))
          have HP4 := hid (fun W => pick_any (S j).what 3 W d0 (by omega))
          have HCUT := hid (fun W => cut_any (S j).value W d2)
          generalize (S j).key = key at *
          generalize (S j).what = what at *
          generalize (S j).value = val at *
          have HKR := hid hkr
          have HR := hid hr
          have HOK := hid hok
          have HSB := hid hsb
          clear hkr hr hok d0 d1 d2 kv hsb hj
          generalize pickZ key 12 = q at *
          generalize pickZ what 3 = q3 at *
          by_cases hq : q = k
          · subst hq
            go_wp2_with fail
            refine (HP3.out _).mono ?_
            rintro e w1 ⟨rfl, rfl⟩
            clear HP3
            have hw1 : IntKind.i64.wrap (q + 1) = q + 1 := IntWalk.i64_in _ ⟨by omega, by omega⟩
            have ht3 : q.tdiv 3 = q / 3 := Int.tdiv_eq_ediv_of_nonneg hk0
            have hw3 : IntKind.i64.wrap (q / 3) = q / 3 := IntWalk.i64_in _ ⟨by omega, by omega⟩
            have g0 : 0 ≤ q / 3 := by omega
            have g1 : q / 3 ≤ 6 := by omega
            have g2 : q ≤ q + 1 := by omega
            have g3 : q + 1 ≤ 12 := by omega
            have g4 : 0 ≤ q + 1 := by omega
            have hadd : ∀ W, (Op.stringOp .add ((ByteArray.mk #[99, 111, 109, 109, 111, 110]).extract 0 (q / 3).toNat) ((ByteArray.mk #[97, 98, 99, 100, 101, 102, 103, 104, 105, 106, 107, 108]).extract q.toNat (q + 1).toNat)).run Tryd.prog W = .ok (.string ((ByteArray.mk #[99, 111, 109, 109, 111, 110]).extract 0 (q / 3).toNat ++ (ByteArray.mk #[97, 98, 99, 100, 101, 102, 103, 104, 105, 106, 107, 108]).extract q.toNat (q + 1).toNat)) W := fun W => run_string_add_sum W _ _ (by rw [ByteArray.size_extract, ByteArray.size_extract]; omega)
            have n1 : ¬ sb = V.heap.size := by have := HSB.out; omega
            have n2 : ¬ V.heap.size = sb := by have := HSB.out; omega
            go_wp2_with fail
            go_region_held3 (fun W => W.cell? ⟨sb, off + j * 3 + 2, none⟩ = some (.string val)) (go_keep) (first | (go_at_call 8; refine (HCUT.out _).mono ?_; rintro e w2 ⟨rfl, rfl⟩))
            go_wp2
            exact ⟨⟨j + 1, true, hjn, rfl, by go_num, mid_set3 HR.out HKR.out (fun _ => ⟨rfl, val_cut val, fun h => by cases h⟩)⟩, by simp only [intOf]; omega⟩
          · go_wp2_with fail
            refine (HP3.out _).mono ?_
            rintro e w1 ⟨rfl, rfl⟩
            clear HP3
            go_wp2
            exact ⟨⟨j + 1, tb, hjn, rfl, by go_num, ⟨⟨rk, rv, rg⟩, HR.out, HOK.out, HKR.out⟩⟩, by simp only [intOf]; omega⟩
        · have hnI2 : ¬ ((j : Int) < n) := by omega
          have HKV := hid kv
          have HR := hid hr
          have HOK := hid hok
          clear kv hr hok hkr hjn
          obtain ⟨hx2, hrow2, hrz2, hkp2⟩ := str_move HXX.out HROW.out HRZ.out HKP.out HKV.out
          have x3 := cell_of_heap hx2 3
          have y3 := frozen_of_heap hx2 3
          simp at x3
          obtain ⟨r0, r1, r2, -, -, -⟩ := three_cells HR.out
          have HX2 := hid hx2
          have HROW2 := hid hrow2
          have HRZ2 := hid hrz2
          have HKP2 := hid hkp2
          clear hx2 hrow2 hrz2 hkp2
          cases tb with
          | false =>
            go_wp2
            exact ⟨⟨k + 1, by omega, by omega, rfl, l, ob, cb, HX2.out, HROW2.out, HGD.out.more hk0, HRZ2.out, HKP2.out⟩, by simp only [intOf]; omega⟩
          | true =>
            have HLL : Hid (l.length < 1000) := by have := HGD.out.2.2; show _ < _; omega
            go_wp2_with fail
            refine (sorted_any (.slice ob l.length cb) l ⟨rk, rv, rg⟩ wr HROW2.out HLL.out).mono ?_
            rintro e w2 ⟨v', o, rfl, hins, hmade⟩
            obtain ⟨oc, cc, rfl, -, -⟩ := hmade.row.form
            have hx4 := (hmade.keep.block _ (Array.getElem?_eq_some_iff.1 HX2.out).1 (fun h => h)).trans HX2.out
            have x4 := cell_of_heap hx4 3
            have y4 := frozen_of_heap hx4 3
            simp at x4
            obtain ⟨q1, q2, q3, q4⟩ := str_put hx4 hmade.row (HRZ2.out.kept hmade.keep (fun h => h)) (HKP2.out.tr hmade.keep (fun _ h => h)) (.slice oc o.length cc)
            have hfit : RecFit true (k + 1) ⟨rk, rv, rg⟩ := by
              obtain ⟨e1, e2, e3⟩ := HOK.out rfl
              exact ⟨⟨k, hk0, by omega, e1⟩, e2, e3⟩
            have Q1 := hid q1
            have Q2 := hid q2
            have Q3 := hid q3
            have Q4 := hid q4
            have HG2 := hid (HGD.out.put hk0 hlt hfit (HOK.out rfl).1 hins)
            clear hmade hx4 x3 y3 q1 q2 q3 q4 hins hfit
            go_wp2
            exact ⟨⟨k + 1, by omega, by omega, rfl, o, oc, cc, Q1.out, Q2.out, HG2.out, Q3.out, Q4.out⟩, by simp only [intOf]; omega⟩
    · have e : k = 12 := by omega
      subst e
      obtain ⟨z0, z1, z2, z3, f0, f1, f2, f3, -, -, -, -⟩ := hrz.facts
      have x0 := cell_of_heap hx 0
      have x1 := cell_of_heap hx 1
      have x2 := cell_of_heap hx 2
      have x3 := cell_of_heap hx 3
      simp at x0 x1 x2 x3
      have HROW := hid hrow
      have HGD := hid hgd
      have HRZ := hid hrz
      have HKP := hid hkp
      clear hx hrow hgd hrz hkp hlt
      generalize hlen : l.length = len at *
      go_wp2
      refine bodyPost_ret (v := .agg #[.bool true, .int .i64 0, .int .i64 pt, .slice ob len cb]) ?_ rfl ?_
      · rw [results_cell_one rfl]
        go_simp
      · refine ⟨l, ob, cb, by rw [hlen], ?_, HGD.out, HKP.out.trans (four_set wr w.heap.size _ _ _ _) (fun i hi e => by have e' : i = w.heap.size := e; omega)⟩
        rw [hlen]
        exact HROW.out.kept (four_set wr w.heap.size _ _ _ _) (fun g hg e => (HROW.out.typeIs hg).ne (e' := 25) (by decide) ⟨_, (show g = w.heap.size from e) ▸ HRZ.out⟩)

end Go.Proofs.YtnkcmfbmkokjpaaDoor
