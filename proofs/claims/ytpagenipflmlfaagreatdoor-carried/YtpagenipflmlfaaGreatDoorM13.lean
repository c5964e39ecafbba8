import Derived.Test.YtpagenipflmlfaaGreatDoorM12
import Derived.Shelf.Strings.BuilderK
import Derived.Test.YtpagenipflmlfaaGreatDoorProg
import Derived.RegionIn

/- A Writer: Tail. -/

namespace Go.Proofs.YtpagenipflmlfaaGreatDoor

open Go.RowKit Go.Shelf

def tailL (sum count : Nat) : List UInt8 := (numL 0 ++ numL count) ++ sumL (ovL sum (numL 0 ++ numL count))

set_option maxRecDepth 100000 in
set_option maxHeartbeats 1000000 in
theorem tail_any (wb o : Nat) (cs : Array Value) (t : TypeId) (sum count : Nat) (w : World) (hb : w.heap[wb]? = some (.cells cs t (0, 0))) (ho : cs[o]? = some (.int .u32 (sum : Nat))) (ho1 : cs[o + 1]? = some (.int .i64 (count : Nat))) (hs : sum < 4294967296) (hc : count < 9223372036854775808) (ht : TurnsAt w) :
    Calls Tryz.prog 99 #[.pointer (some ⟨wb, o, none⟩)] w fun e w' => e = .returned (.string (ofL (tailL sum count))) ∧ Keeps (fun _ => False) w w' := by
  have HF : Hid (∀ W, Keeps (fun _ => False) w W → W.heap[wb]? = some (.cells cs t (0, 0))) := fun W hW => (hW.block wb (Array.getElem?_eq_some_iff.1 hb).1 (fun h => h)).trans hb
  have HCO : Hid (∀ W, Keeps (fun _ => False) w W → W.cell? ⟨wb, o, none⟩ = some (.int .u32 (sum : Nat)) ∧ W.cell? ⟨wb, o + 1, none⟩ = some (.int .i64 (count : Nat))) := fun W hW => ⟨(cell_of_heap (HF.out W hW) o).trans ho, (cell_of_heap (HF.out W hW) (o + 1)).trans ho1⟩
  obtain ⟨c0, c1⟩ := HCO.out w (Keeps.refl _ _)
  have z1 := num_text 0 (by omega)
  have z2 := num_text count hc
  have HN1 := hid (fun W => number_any 0 W (by omega))
  have HN2 := hid (fun W => number_any count W hc)
  have hE : ofL (numL 0 ++ numL count) = ofL (numL 0) ++ ofL (numL count) := (ofL_append _ _).symm
  have hsz : (ofL (numL 0 ++ numL count)).size ≤ 18 := by rw [hE]; simp only [ByteArray.size_append]; omega
  have HOV := hid (fun W (hW : Keeps (fun _ => False) w W) => checkOver_any sum (ofL (numL 0 ++ numL count)) W hs (by unfold maxLen; omega) (ht.kept hW (fun h => h)))
  rw [ofL_list] at HOV
  have HBY := hid (fun W => checkBytes_any (ovL sum (numL 0 ++ numL count)) W (ovL_lt _ _))
  have z3 : (ofL (sumL (ovL sum (numL 0 ++ numL count)))).size = 4 := by rw [ofL_size]; rfl
  have HR : Hid (ofL (tailL sum count) = ofL (numL 0 ++ numL count) ++ ofL (sumL (ovL sum (numL 0 ++ numL count)))) := (ofL_append _ _).symm
  rw [HR.out]
  generalize ovL sum (numL 0 ++ numL count) = sm at *
  generalize ofL (sumL sm) = t4 at *
  generalize ofL (numL 0 ++ numL count) = t3 at *
  generalize ofL (numL 0) = t1 at *
  generalize ofL (numL count) = t2 at *
  have hr1 : ∀ W, (Op.stringOp .add t1 t2).run Tryz.prog W = .ok (.string t3) W := fun W => by rw [hE]; exact run_string_add_sum W _ _ (by omega)
  clear hb ht hs hc ho ho1 HR hE
  go_enter Tryz.func99, Tryz.ntmps99
  go_wp2_with fail
  go_region_held3 (fun W => W.cell? ⟨wb, o + 1, none⟩ = some (.int .i64 (count : Nat))) (go_keep) (first
    | (go_at_call 131; have hh := HK1.out; clear hh; refine (HN2.out _).mono ?_; rintro e w2 ⟨rfl, k2⟩; have HK2 := hid (HK1.out.tr k2 (fun _ h => h)); obtain ⟨e0, e1⟩ := HCO.out _ HK2.out; clear k2)
    | (go_at_call 131; refine (HN1.out _).mono ?_; rintro e w1 ⟨rfl, k1⟩; have HK1 := hid ((Keeps.drew (fun _ => False) _).tr k1 (fun _ h => h)); obtain ⟨d0, d1⟩ := HCO.out _ HK1.out; clear k1))
  clear c0 c1
  go_wp2_with fail
  refine (HOV.out _ HK2.out).mono ?_
  rintro e w2 ⟨rfl, rfl⟩
  go_wp2_with fail
  refine (HBY.out _).mono ?_
  rintro e w3 ⟨rfl, k3⟩
  have HK3 := hid (HK2.out.tr k3 (fun _ h => h))
  clear k3
  go_wp2
  go_ret
  exact ⟨rfl, HK3.out⟩

end Go.Proofs.YtpagenipflmlfaaGreatDoor

/- A Writer: Block. -/

namespace Go.Proofs.YtpagenipflmlfaaGreatDoor

open Go.RowKit Go.Shelf

/-- records that lie somewhere in a block -/
def RecIn (w : World) (oa : Option Addr) (l : List RecB) : Prop := ∀ i (h : i < l.length), ∃ g off, oa = some ⟨g, off, none⟩ ∧ w.cell? ⟨g, off + i * 3, none⟩ = some (.string l[i].key) ∧ w.cell? ⟨g, off + i * 3 + 1, none⟩ = some (.string l[i].value) ∧ w.cell? ⟨g, off + i * 3 + 2, none⟩ = some (.bool l[i].gone)

theorem RecIn.kept {w w' : World} {oa : Option Addr} {l : List RecB} (h : RecIn w oa l) (hk : Keeps (fun _ => False) w w') : RecIn w' oa l := fun i hi => by
  obtain ⟨g, off, e, h1, h2, h3⟩ := h i hi
  exact ⟨g, off, e, hk.cell h1 (fun h => h), hk.cell h2 (fun h => h), hk.cell h3 (fun h => h)⟩

def lastK (a : List UInt8) (l : List Rec) : List UInt8 := (l.getLast?.map Rec.key).getD a

theorem recsL_snoc : ∀ (l : List Rec) (a : List UInt8) (r : Rec), recsL a (l ++ [r]) = recsL a l ++ recL (lastK a l) r
  | [], a, r => by simp [recsL, lastK]
  | x :: l, a, r => by
    have ih := recsL_snoc l x.key r
    have e : lastK a (x :: l) = lastK x.key l := by
      unfold lastK
      rw [List.getLast?_cons]
      cases l.getLast? <;> rfl
    rw [e, List.cons_append, recsL, recsL, ih, List.append_assoc]

/-- the key ahead of the k-th -/
def aheadB (l : List RecB) (k : Nat) : ByteArray := ((l.take k).getLast?.map RecB.key).getD ⟨#[]⟩

theorem ahead_last (l : List RecB) (k : Nat) : (aheadB l k).data.toList = lastK [] ((l.take k).map RecB.rec_) := by
  unfold aheadB lastK
  rw [List.getLast?_map]
  cases (l.take k).getLast? <;> rfl

theorem ahead_next {l : List RecB} {k : Nat} (hk : k < l.length) : aheadB l (k + 1) = l[k].key := by
  unfold aheadB
  rw [List.take_succ_eq_append_getElem hk, List.getLast?_concat]
  rfl

theorem recL_len (a : List UInt8) (r : Rec) (hk : r.key.length ≤ 1000) (hv : r.value.length ≤ 1000) : (recL a r).length ≤ 2027 := by
  have h1 := (common_le a r.key).2
  have n1 := numL_len 8 (common a r.key) (by omega)
  have n2 := numL_len 8 (r.key.length - common a r.key) (by omega)
  have n3 := numL_len 8 (1 + r.value.length) (by omega)
  have n4 := numL_len 8 0 (by omega)
  unfold recL tailOf
  split
  · simp only [List.length_append, List.length_drop]; omega
  · simp only [List.length_append, List.length_drop]; omega

/-- what has been written of a block -/
def partL (l : List RecB) (k : Nat) : List UInt8 := numL l.length ++ recsL [] ((l.take k).map RecB.rec_)

theorem partL_next {l : List RecB} {k : Nat} (hk : k < l.length) : partL l (k + 1) = partL l k ++ recL (aheadB l k).data.toList l[k].rec_ := by
  unfold partL
  rw [List.take_succ_eq_append_getElem hk, List.map_append, List.map_cons, List.map_nil, recsL_snoc, ahead_last, List.append_assoc]

/-- records of a stream: their texts are small -/
def Small (l : List RecB) : Prop := ∀ r ∈ l, r.key.size ≤ 1000 ∧ r.value.size ≤ 1000

theorem partL_len {l : List RecB} (hs : Small l) (hl : l.length ≤ 1000) : ∀ k, k ≤ l.length → (partL l k).length ≤ 9 + k * 2027
  | 0, _ => by
    unfold partL
    have := numL_len 8 l.length (by omega)
    simpa [recsL] using this
  | k + 1, hk => by
    rw [partL_next (by omega), List.length_append]
    have ih := partL_len hs hl k (by omega)
    obtain ⟨h1, h2⟩ := hs l[k] (List.getElem_mem (by omega))
    have := recL_len (aheadB l k).data.toList l[k].rec_ (by simpa [RecB.rec_] using h1) (by simpa [RecB.rec_] using h2)
    omega

theorem ahead_small {l : List RecB} (hs : Small l) (k : Nat) : (aheadB l k).size ≤ 1000 := by
  unfold aheadB
  cases h : (l.take k).getLast? with
  | none => exact Nat.zero_le _
  | some x => exact (hs x ((List.take_sublist k l).subset (List.mem_of_getLast? h))).1

set_option maxRecDepth 100000 in
set_option maxHeartbeats 2000000 in
theorem block_any (wb o : Nat) (cs : Array Value) (t : TypeId) (sum count : Nat) (oa : Option Addr) (cap : Nat) (l : List RecB) (w : World) (hb : w.heap[wb]? = some (.cells cs t (0, 0))) (ho : cs[o]? = some (.int .u32 (sum : Nat))) (ho1 : cs[o + 1]? = some (.int .i64 (count : Nat))) (hs : sum < 4294967296) (hc : count < 1000000000000000)
    (hl : l.length ≤ 1000) (hr : RecIn w oa l) (hsm : Small l) (ht : TurnsAt w) :
    Calls Tryz.prog 100 #[.pointer (some ⟨wb, o, none⟩), .slice oa l.length cap] w fun e w' => e = .returned (.string (ofL (blockL (l.map RecB.rec_)))) ∧
      w'.heap[wb]? = some (.cells ((cs.setIfInBounds o (.int .u32 (ovL sum (blockL (l.map RecB.rec_)) : Nat))).setIfInBounds (o + 1) (.int .i64 ((count + l.length : Nat) : Int))) t (0, 0)) ∧ Keeps (· = wb) w w' := by
  have HF : Hid (∀ W, Keeps (fun _ => False) w W → W.heap[wb]? = some (.cells cs t (0, 0))) := fun W hW => (hW.block wb (Array.getElem?_eq_some_iff.1 hb).1 (fun h => h)).trans hb
  have HR := hid hr
  have HSM := hid hsm
  have HT := hid ht
  have HN := hid (fun W => number_any l.length W (by omega))
  have HP := hid (partL_len hsm hl)
  have HAS := hid (ahead_small hsm)
  have HL := hid hl
  have HE : Hid (blockL (l.map RecB.rec_) = partL l l.length ++ checkL (partL l l.length)) := by
    show _ = _
    unfold blockL blockB partL
    rw [List.take_length, List.length_map]
  have h0 : ofL (numL l.length) = ofL (partL l 0) := by unfold partL; simp [recsL]
  rw [h0] at HN
  have HO := hid (And.intro ho ho1)
  have HS := hid hs
  have HCT := hid hc
  have hlI : (l.length : Int) ≤ 1000 := by omega
  clear hb ht hr hsm h0 ho ho1 hl hs hc
  go_enter Tryz.func100, Tryz.ntmps100
  go_wp2_with fail
  refine (HN.out _).mono ?_
  rintro e w1 ⟨rfl, k1⟩
  have HK1 := hid k1
  clear k1 HN
  go_wp2_with fail
  go_loopw [5, 6, 14] (fun p a i wr => ∃ k : Nat, k ≤ l.length ∧ i = .int .i64 k ∧ p = .string (ofL (partL l k)) ∧ a = .string (aheadB l k) ∧ Keeps (fun _ => False) w wr) (fun _ _ i _ => l.length - (intOf i).toNat)
  case atStart => exact ⟨0, Nat.zero_le _, rfl, rfl, rfl, HK1.out⟩
  case round =>
    obtain ⟨k, hk, rfl, rfl, rfl, hkr⟩ := hrel
    have hps : (ofL (partL l k)).size ≤ 3000000 := by rw [ofL_size]; have := HP.out k hk; have := HL.out; omega
    by_cases hlt : k < l.length
    · obtain ⟨g, off, rfl, r0, r1, r2⟩ := HR.out.kept hkr k hlt
      obtain ⟨m1, m2⟩ := HSM.out l[k] (List.getElem_mem hlt)
      have HREC := hid (fun W => record_any l[k] (aheadB l k) W m1 (HAS.out k) m2)
      have hrs : (ofL (recL (aheadB l k).data.toList l[k].rec_)).size ≤ 2027 := by rw [ofL_size]; exact recL_len _ _ (by simpa [RecB.rec_] using m1) (by simpa [RecB.rec_] using m2)
      have HNX : Hid (ofL (partL l (k + 1)) = ofL (partL l k) ++ ofL (recL (aheadB l k).data.toList l[k].rec_)) := by show _ = _; rw [ofL_append, partL_next hlt]
      have HNA := hid (ahead_next hlt)
      unfold RecB.val at HREC
      generalize ofL (recL (aheadB l k).data.toList l[k].rec_) = rt at *
      generalize aheadB l k = ah at *
      generalize ofL (partL l k) = pt at *
      generalize l[k].key = rk at *
      generalize l[k].value = rv at *
      generalize l[k].gone = rg at *
      have HKR := hid hkr
      clear hkr m1 m2
      go_wp2_with fail
      refine (HREC.out _).mono ?_
      rintro e w2 ⟨rfl, k2⟩
      obtain ⟨q0, q1, q2, -⟩ := three_cells (box_kept k2 (fun h => h))
      have HK2 := hid ((HKR.out.al _).tr k2 (fun _ h => h))
      clear k2
      go_wp2
      exact ⟨⟨k + 1, by omega, by go_num, by rw [HNX.out], by rw [HNA.out], HK2.out⟩, by simp only [intOf]; omega⟩
    · have e : k = l.length := by omega
      subst e
      have HKR := hid hkr
      have HCK := hid (fun W (hW : Keeps (fun _ => False) w W) => checkOf_any (ofL (partL l l.length)) W (by unfold maxLen; omega) (HT.out.kept hW (fun h => h)))
      rw [ofL_list] at HCK
      have hcs : (ofL (checkL (partL l l.length))).size = 4 := by rw [ofL_size]; rfl
      have HBT : Hid (ofL (blockL (l.map RecB.rec_)) = ofL (partL l l.length) ++ ofL (checkL (partL l l.length))) := by show _ = _; rw [HE.out, ofL_append]
      have HOV := hid (fun W (hW : Keeps (fun _ => False) w W) => checkOver_any sum (ofL (blockL (l.map RecB.rec_))) W HS.out (by rw [HBT.out, ByteArray.size_append]; unfold maxLen; omega) (HT.out.kept hW (fun h => h)))
      rw [ofL_list, HBT.out] at HOV
      obtain ⟨sm, hsm⟩ : ∃ sm, sm = ovL sum (blockL (l.map RecB.rec_)) := ⟨_, rfl⟩
      rw [← hsm] at HOV
      have HSMM := hid hsm
      clear hsm
      generalize ofL (checkL (partL l l.length)) = ct at *
      generalize ofL (partL l l.length) = pt at *
      clear hkr
      go_wp2_with fail
      refine (HCK.out _ HKR.out).mono ?_
      rintro e w2 ⟨rfl, k2⟩
      have HK2 := hid (HKR.out.tr k2 (fun _ h => h))
      have b2 := HF.out _ HK2.out
      have x0 : w2.cell? ⟨wb, o, none⟩ = some (.int .u32 (sum : Nat)) := (cell_of_heap b2 o).trans HO.out.1
      have f0 : w2.frozen? ⟨wb, o, none⟩ = false := frozen_of_heap b2 o
      have b3 : (w2.setCell ⟨wb, o, none⟩ (.int .u32 (sm : Nat))).heap[wb]? = some (.cells (cs.setIfInBounds o (.int .u32 (sm : Nat))) t (0, 0)) := heap_setCell_same b2 _
      have x1 : (w2.setCell ⟨wb, o, none⟩ (.int .u32 (sm : Nat))).cell? ⟨wb, o + 1, none⟩ = some (.int .i64 (count : Nat)) := by
        rw [cell_of_heap b3, Array.getElem?_setIfInBounds, if_neg (by omega)]
        exact HO.out.2
      have f1 : (w2.setCell ⟨wb, o, none⟩ (.int .u32 (sm : Nat))).frozen? ⟨wb, o + 1, none⟩ = false := frozen_of_heap b3 _
      have HB3 := hid b3
      have hctI : (count : Int) < 1000000000000000 := by have := HCT.out; omega
      clear k2 b2 b3
      go_wp2_with fail
      refine (HOV.out _ HK2.out).mono ?_
      rintro e w2 ⟨rfl, rfl⟩
      go_wp2
      go_ret
      refine ⟨by rw [HBT.out]; rfl, ?_, ?_⟩
      · rw [← HSMM.out]
        have := heap_setCell_same (i := o + 1) HB3.out (.int .i64 ((count + l.length : Nat) : Int))
        simpa using this
      · exact ((HK2.out.mono (T := (· = wb)) (fun _ _ h => h.elim)).tr (Keeps.setCell _ _ _) (fun _ h => h)).tr (Keeps.setCell _ _ _) (fun _ h => h)

end Go.Proofs.YtpagenipflmlfaaGreatDoor

/- What is no stream: IsState, StatesFit, judge. -/

namespace Go.Proofs.YtpagenipflmlfaaGreatDoor

open Go.RowKit Go.Shelf

def stateB (n : Int) : Bool := decide (0 ≤ n) && decide (n ≤ 1000000000)

def fitB (full : Bool) (a b : Int) : Bool := stateB a && stateB b && (if full = true then decide (a = 0) else decide (a < b))

theorem isState_any (n : Int) (w : World) : Calls Tryz.prog 128 #[.int .i64 n] w fun e w' => e = .returned (.bool (stateB n)) ∧ w' = w := by
  by_cases h0 : 0 ≤ n
  · by_cases h1 : n ≤ 1000000000
    · have e : stateB n = true := by simp [stateB, h0, h1]
      rw [e]
      go_enter Tryz.func128, Tryz.ntmps128
      go_wp2
      go_ret
      exact ⟨rfl, rfl⟩
    · have e : stateB n = false := by simp [stateB, h1]
      rw [e]
      go_enter Tryz.func128, Tryz.ntmps128
      go_wp2
      go_ret
      exact ⟨rfl, rfl⟩
  · have e : stateB n = false := by simp [stateB, h0]
    rw [e]
    go_enter Tryz.func128, Tryz.ntmps128
    go_wp2
    go_ret
    exact ⟨rfl, rfl⟩

theorem statesFit_any (full : Bool) (a b : Int) (w : World) : Calls Tryz.prog 94 #[.bool full, .int .i64 a, .int .i64 b] w fun e w' => e = .returned (.bool (fitB full a b)) ∧ w' = w := by
  have HA := hid (fun W => isState_any a W)
  have HB := hid (fun W => isState_any b W)
  have HF : Hid (fitB full a b = (stateB a && stateB b && (if full = true then decide (a = 0) else decide (a < b)))) := hid rfl
  rw [HF.out]
  generalize stateB a = sa at *
  generalize stateB b = sb at *
  cases sa with
  | false =>
    simp only [Bool.false_and]
    go_enter Tryz.func94, Tryz.ntmps94
    go_wp2_with fail
    refine (HA.out _).mono ?_
    rintro e w' ⟨rfl, rfl⟩
    go_wp2
    go_ret
    exact ⟨rfl, rfl⟩
  | true =>
    cases sb with
    | false =>
      simp only [Bool.and_false, Bool.false_and]
      go_enter Tryz.func94, Tryz.ntmps94
      go_wp2_with fail
      refine (HA.out _).mono ?_
      rintro e w' ⟨rfl, rfl⟩
      go_wp2_with fail
      refine (HB.out _).mono ?_
      rintro e w' ⟨rfl, rfl⟩
      go_wp2
      go_ret
      exact ⟨rfl, rfl⟩
    | true =>
      simp only [Bool.true_and]
      cases full with
      | true =>
        simp only [if_true]
        go_enter Tryz.func94, Tryz.ntmps94
        go_wp2_with fail
        refine (HA.out _).mono ?_
        rintro e w' ⟨rfl, rfl⟩
        go_wp2_with fail
        refine (HB.out _).mono ?_
        rintro e w' ⟨rfl, rfl⟩
        go_wp2
        go_ret
        exact ⟨rfl, rfl⟩
      | false =>
        simp only [Bool.false_eq_true, if_false]
        go_enter Tryz.func94, Tryz.ntmps94
        go_wp2_with fail
        refine (HA.out _).mono ?_
        rintro e w' ⟨rfl, rfl⟩
        go_wp2_with fail
        refine (HB.out _).mono ?_
        rintro e w' ⟨rfl, rfl⟩
        go_wp2
        go_ret
        exact ⟨rfl, rfl⟩

end Go.Proofs.YtpagenipflmlfaaGreatDoor

/- judge. -/

namespace Go.Proofs.YtpagenipflmlfaaGreatDoor

open Go.RowKit Go.Shelf

theorem run_leq_str {P : Program} {t : TypeId} (x y : ByteArray) (w : World) : (binOp BinOp.leq t (.string x) (.string y)).run P w = .ok (.bool (!ltK y x)) w := by
  have h := gtr_str x y
  have e : (binOp BinOp.leq t (.string x) (.string y)).run P w = .ok (.bool (ltK x y || x.toList == y.toList)) w := by simp [binOp, Op.stringOp, ltK]
  rw [e, ← h]
  cases ltK x y <;> cases (x.toList == y.toList) <;> rfl

/-- is it a record of a stream, behind the key ahead? -/
def okRec (full : Bool) (ah : ByteArray) (r : RecB) : Bool := keyB r.key && valB r.value && ltK ah r.key && !(r.gone && (full || !r.value.toList.isEmpty))

def okTo (full : Bool) (l : List RecB) (k : Nat) : Bool := (List.range k).all fun j => match l[j]? with
  | some r => okRec full (aheadB l j) r
  | none => true

def judgeB (full : Bool) (a b : Int) (l : List RecB) : Bool := fitB full a b && decide (l.length ≤ 1000) && okTo full l l.length

theorem okTo_next {full : Bool} {l : List RecB} {k : Nat} (hk : k < l.length) : okTo full l (k + 1) = (okTo full l k && okRec full (aheadB l k) l[k]) := by
  unfold okTo
  rw [List.range_succ, List.all_append]
  simp [List.getElem?_eq_getElem hk]

theorem okTo_mono {full : Bool} {l : List RecB} {j k : Nat} (h : j ≤ k) (hk : okTo full l k = true) : okTo full l j = true := by
  unfold okTo at *
  rw [List.all_eq_true] at *
  intro x hx
  exact hk x (List.mem_range.2 (Nat.lt_of_lt_of_le (List.mem_range.1 hx) h))

theorem okTo_bad {full : Bool} {l : List RecB} {k : Nat} (hk : k < l.length) (h : okRec full (aheadB l k) l[k] = false) (a b : Int) : judgeB full a b l = false := by
  have : okTo full l l.length = false := by
    cases hq : okTo full l l.length with
    | false => rfl
    | true =>
      have h1 := okTo_mono (show k + 1 ≤ l.length by omega) hq
      rw [okTo_next hk, h, Bool.and_false] at h1
      cases h1
  unfold judgeB
  rw [this, Bool.and_false]

/-- an error lies in a variable -/
def ErrAt (w : World) (g : Nat) : Prop := ∃ t v, w.cell? ⟨g, 0, none⟩ = some (.iface t v)

theorem ErrAt.kept {w w' : World} {g : Nat} (h : ErrAt w g) (hk : Keeps (fun _ => False) w w') : ErrAt w' g := by
  obtain ⟨t, v, h⟩ := h
  exact ⟨t, v, hk.cell h (fun h => h)⟩

/-- it is one of judge's errors -/
def JErr (w : World) (t : TypeId) (v : Value) : Prop := ∃ g, (3 ≤ g ∧ g ≤ 7) ∧ w.cell? ⟨g, 0, none⟩ = some (.iface t v)

/-- what judge says -/
def JudgePost (ok : Bool) (w : World) (e : Ending) (w' : World) : Prop := (if ok = true then e = .returned .nilIface else ∃ t v, JErr w t v ∧ e = .returned (.iface t v)) ∧ Keeps (fun _ => False) w w'

theorem JudgePost.bad {ok : Bool} {w w' : World} {t : TypeId} {v : Value} (hg : JErr w t v) (h : ok = false) (hk : Keeps (fun _ => False) w w') : JudgePost ok w (.returned (.iface t v)) w' := by
  refine ⟨?_, hk⟩
  rw [h]
  exact ⟨t, v, hg, rfl⟩

theorem JudgePost.good {ok : Bool} {w w' : World} (h : ok = true) (hk : Keeps (fun _ => False) w w') : JudgePost ok w (.returned .nilIface) w' := by
  refine ⟨?_, hk⟩
  rw [h]
  rfl

set_option maxRecDepth 100000 in
set_option maxHeartbeats 2000000 in
theorem judge_any (full : Bool) (a b : Int) (oa : Option Addr) (cap : Nat) (l : List RecB) (w : World) (hr : RecIn w oa l) (hl : l.length ≤ maxLen) (hs : ∀ r ∈ l, r.key.size ≤ maxLen ∧ r.value.size ≤ maxLen) (he : ∀ g, 3 ≤ g → g ≤ 7 → ErrAt w g) :
    Calls Tryz.prog 114 #[.agg #[.bool full, .int .i64 a, .int .i64 b, .slice oa l.length cap]] w (JudgePost (judgeB full a b l) w) := by
  have HR := hid hr
  have HS := hid hs
  have HE := hid he
  have HF := hid (fun W => statesFit_any full a b W)
  have HJ : Hid (judgeB full a b l = (fitB full a b && decide (l.length ≤ 1000) && okTo full l l.length)) := hid rfl
  have HBAD := hid (fun k (hk : k < l.length) (h : okRec full (aheadB l k) l[k] = false) => okTo_bad hk h a b)
  generalize judgeB full a b l = jb at *
  obtain ⟨t2, v2, g2⟩ := he 3 (by omega) (by omega)
  obtain ⟨t3, v3, g3⟩ := he 4 (by omega) (by omega)
  have J2 : Hid (JErr w t2 v2) := ⟨3, by omega, g2⟩
  have J3 : Hid (JErr w t3 v3) := ⟨4, by omega, g3⟩
  unfold maxLen at hl
  clear hr hs he
  cases hfit : fitB full a b with
  | false =>
    rw [hfit] at HF HJ
    have HG2 := (Keeps.alloc (fun _ => False) w (.cells #[.bool full, .int .i64 a, .int .i64 b, .slice oa l.length cap] 84)).cell g2 (fun h => h)
    go_enter Tryz.func114, Tryz.ntmps114
    go_wp2_with fail
    refine (HF.out _).mono ?_
    rintro e w' ⟨rfl, rfl⟩
    go_wp2
    go_ret
    exact JudgePost.bad J2.out (by rw [HJ.out]; rfl) ((Keeps.refl _ _).al _)
  | true =>
    rw [hfit] at HF HJ
    by_cases h1000 : l.length ≤ 1000
    · have h1000I : (l.length : Int) ≤ 1000 := by omega
      have HG : Hid (jb = okTo full l l.length) := by show _ = _; rw [HJ.out, decide_eq_true h1000]; rfl
      clear HJ h1000 g2 g3 hfit
      go_enter Tryz.func114, Tryz.ntmps114
      go_wp2_with fail
      refine (HF.out _).mono ?_
      rintro e w' ⟨rfl, rfl⟩
      go_wp2_with fail
      go_loopw [3, 23] (fun ah i wr => ∃ k : Nat, k ≤ l.length ∧ ah = .string (aheadB l k) ∧ i = .int .i64 k ∧ okTo full l k = true ∧ Keeps (fun _ => False) (w.alloc (.cells #[.bool full, .int .i64 a, .int .i64 b, .slice oa l.length cap] 84)) wr) (fun _ i _ => l.length - (intOf i).toNat)
      case atStart => exact ⟨0, Nat.zero_le _, rfl, rfl, rfl, Keeps.refl _ _⟩
      case round =>
        obtain ⟨k, hk, rfl, rfl, hok, hkr⟩ := hrel
        have hkw : Keeps (fun _ => False) w wr := ((Keeps.refl (fun _ => False) w).al _).tr hkr (fun _ h => h)
        have xb := cell_of_heap (box_kept hkr (fun h => h)) 0
        simp at xb
        by_cases hlt : k < l.length
        · obtain ⟨g, off, rfl, r0, r1, r2⟩ := HR.out.kept hkw k hlt
          obtain ⟨m1, m2⟩ := HS.out l[k] (List.getElem_mem hlt)
          obtain ⟨t4, v4, y4⟩ := HE.out 5 (by omega) (by omega)
          have J4 : Hid (JErr w t4 v4) := ⟨5, by omega, y4⟩
          have g4 := hkw.cell y4 (fun h => h)
          clear y4
          obtain ⟨t5, v5, y5⟩ := HE.out 6 (by omega) (by omega)
          have J5 : Hid (JErr w t5 v5) := ⟨6, by omega, y5⟩
          have g5 := hkw.cell y5 (fun h => h)
          clear y5
          obtain ⟨t6, v6, y6⟩ := HE.out 7 (by omega) (by omega)
          have J6 : Hid (JErr w t6 v6) := ⟨7, by omega, y6⟩
          have g6 := hkw.cell y6 (fun h => h)
          clear y6
          have HKY := hid (fun W => isKey_any l[k].key W m1)
          have HVL := hid (fun W => isValue_any l[k].value W m2)
          have HOK : Hid (okRec full (aheadB l k) l[k] = (keyB l[k].key && valB l[k].value && ltK (aheadB l k) l[k].key && !(l[k].gone && (full || !l[k].value.toList.isEmpty)))) := hid rfl
          have HBK := hid (HBAD.out k hlt)
          have HNX : Hid (okRec full (aheadB l k) l[k] = true → okTo full l (k + 1) = true) := fun h => by rw [okTo_next hlt, hok, h]; rfl
          have HNA := hid (ahead_next hlt)
          have hle : ∀ W, (binOp BinOp.leq 9 (.string l[k].key) (.string (aheadB l k))).run Tryz.prog W = .ok (.bool (!ltK (aheadB l k) l[k].key)) W := fun W => run_leq_str _ _ _
          generalize okRec full (aheadB l k) l[k] = okr at *
          generalize aheadB l k = ah at *
          generalize l[k].key = rk at *
          generalize l[k].value = rv at *
          generalize l[k].gone = rg at *
          have HKR := hid hkr
          have HKW := hid hkw
          clear hkr hkw m1 m2 hok
          generalize keyB rk = b1 at *
          generalize valB rv = b2 at *
          generalize ltK ah rk = b3 at *
          have al := Keeps.alloc (fun _ => False) wr (.cells #[.string rk, .string rv, .bool rg] 147)
          have p4 := al.cell g4 (fun h => h)
          have p5 := al.cell g5 (fun h => h)
          have p6 := al.cell g6 (fun h => h)
          have pb := al.cell xb (fun h => h)
          clear al g4 g5 g6 xb
          cases b1 with
          | false =>
            go_wp2_with (first | (go_at_call 50; go_must (refine (HKY.out _).mono ?_; rintro e w2 ⟨rfl, rfl⟩)) | (go_at_call 82; go_must (refine (HVL.out _).mono ?_; rintro e w2 ⟨rfl, rfl⟩)))
            go_ret
            exact JudgePost.bad (by first | exact J4.out | exact J5.out | exact J6.out) (HBK.out (by rw [HOK.out]; rfl)) (HKW.out.al _)
          | true =>
            cases b2 with
            | false =>
              go_wp2_with (first | (go_at_call 50; go_must (refine (HKY.out _).mono ?_; rintro e w2 ⟨rfl, rfl⟩)) | (go_at_call 82; go_must (refine (HVL.out _).mono ?_; rintro e w2 ⟨rfl, rfl⟩)))
              go_ret
              exact JudgePost.bad (by first | exact J4.out | exact J5.out | exact J6.out) (HBK.out (by rw [HOK.out]; rfl)) (HKW.out.al _)
            | true =>
              cases b3 with
              | false =>
                go_wp2_with (first | (go_at_call 50; go_must (refine (HKY.out _).mono ?_; rintro e w2 ⟨rfl, rfl⟩)) | (go_at_call 82; go_must (refine (HVL.out _).mono ?_; rintro e w2 ⟨rfl, rfl⟩)))
                go_ret
                exact JudgePost.bad (by first | exact J4.out | exact J5.out | exact J6.out) (HBK.out (by rw [HOK.out]; rfl)) (HKW.out.al _)
              | true =>
                cases rg with
                | false =>
                  go_wp2_with (first | (go_at_call 50; go_must (refine (HKY.out _).mono ?_; rintro e w2 ⟨rfl, rfl⟩)) | (go_at_call 82; go_must (refine (HVL.out _).mono ?_; rintro e w2 ⟨rfl, rfl⟩)))
                  exact ⟨⟨k + 1, by omega, by rw [HNA.out], by go_num, HNX.out (by rw [HOK.out]; rfl), HKR.out.al _⟩, by simp only [intOf]; omega⟩
                | true =>
                  cases full with
                  | true =>
                    go_wp2_with (first | (go_at_call 50; go_must (refine (HKY.out _).mono ?_; rintro e w2 ⟨rfl, rfl⟩)) | (go_at_call 82; go_must (refine (HVL.out _).mono ?_; rintro e w2 ⟨rfl, rfl⟩)))
                    go_ret
                    exact JudgePost.bad (by first | exact J4.out | exact J5.out | exact J6.out) (HBK.out (by rw [HOK.out]; rfl)) (HKW.out.al _)
                  | false =>
                    cases hb4 : rv.toList.isEmpty with
                    | true =>
                      go_wp2_with (first | (go_at_call 50; go_must (refine (HKY.out _).mono ?_; rintro e w2 ⟨rfl, rfl⟩)) | (go_at_call 82; go_must (refine (HVL.out _).mono ?_; rintro e w2 ⟨rfl, rfl⟩)))
                      exact ⟨⟨k + 1, by omega, by rw [HNA.out], by go_num, HNX.out (by rw [HOK.out, hb4]; rfl), HKR.out.al _⟩, by simp only [intOf]; omega⟩
                    | false =>
                      go_wp2_with (first | (go_at_call 50; go_must (refine (HKY.out _).mono ?_; rintro e w2 ⟨rfl, rfl⟩)) | (go_at_call 82; go_must (refine (HVL.out _).mono ?_; rintro e w2 ⟨rfl, rfl⟩)))
                      go_ret
                      exact JudgePost.bad (by first | exact J4.out | exact J5.out | exact J6.out) (HBK.out (by rw [HOK.out, hb4]; rfl)) (HKW.out.al _)
        · have e : k = l.length := by omega
          subst e
          have HB : Hid (jb = true) := by show _ = _; rw [HG.out]; exact hok
          have HKW := hid hkw
          clear hkr hok hkw
          go_wp2
          go_ret
          exact JudgePost.good HB.out HKW.out
    · have HG3 := (Keeps.alloc (fun _ => False) w (.cells #[.bool full, .int .i64 a, .int .i64 b, .slice oa l.length cap] 84)).cell g3 (fun h => h)
      have hgt : (1000 : Int) < l.length := by omega
      have HB : Hid (jb = false) := by show _ = _; rw [HJ.out, decide_eq_false h1000]; rfl
      clear h1000
      go_enter Tryz.func114, Tryz.ntmps114
      go_wp2_with fail
      refine (HF.out _).mono ?_
      rintro e w' ⟨rfl, rfl⟩
      go_wp2
      go_ret
      exact JudgePost.bad J3.out HB.out ((Keeps.refl _ _).al _)

end Go.Proofs.YtpagenipflmlfaaGreatDoor

/- strings.Builder at this program: numbers of functions and types, and one theorem each. -/

namespace Go.Proofs

open Go.Shelf

end Go.Proofs

/- strings.Builder: WriteString, String. -/

namespace Go.Proofs.YtpagenipflmlfaaGreatDoor

open Go.RowKit Go.Shelf

theorem Tryz.sizeBuilder : (Tryz.prog.info? 192).map (·.size) = some 2 := by kernel_rfl

theorem Tryz.liesBuilder : liesAt Tryz.prog Tryz.prog.depth 192 (2 / Tryz.prog.cellsOf 192) 0 192 1 = true := by kernel_rfl

set_option maxRecDepth 100000 in
theorem copyCheck_used (b : Nat) (w : World) (h0 : w.cell? ⟨b, 0, none⟩ = some (.pointer (some ⟨b, 0, none⟩))) :
    Calls Tryz.prog 145 #[.pointer (some ⟨b, 0, none⟩)] w fun e w' => e = .returned (.tuple #[]) ∧ w' = w := by
  obtain ⟨j, hj, _⟩ := Option.map_eq_some_iff.1 Tryz.sizeBuilder
  go_enter Tryz.func145, Tryz.ntmps145
  go_wp2
  rw [Lib.run_neq_ptr_same w _ Tryz.underlying189 hj]
  go_wp2
  go_end0
  exact ⟨rfl, rfl⟩

set_option maxRecDepth 100000 in
theorem copyCheck_fresh (b : Nat) (w : World) (h0 : w.cell? ⟨b, 0, none⟩ = some (.pointer none)) (hsh : w.shape? b = some (192, 2)) (hfz : w.frozen? ⟨b, 0, none⟩ = false) :
    Calls Tryz.prog 145 #[.pointer (some ⟨b, 0, none⟩)] w fun e w' => e = .returned (.tuple #[]) ∧ w' = w.setCell ⟨b, 0, none⟩ (.pointer (some ⟨b, 0, none⟩)) := by
  obtain ⟨j, hj, hjs⟩ := Option.map_eq_some_iff.1 Tryz.sizeBuilder
  go_enter Tryz.func145, Tryz.ntmps145
  go_wp2
  rw [Lib.run_to_unsafe w ⟨b, 0, none⟩ Tryz.underlying189 Tryz.underlying223 hj (by rw [hjs]; decide) hsh (Nat.zero_lt_succ 1)]
  simp only [Result.andThen]
  rw [Oper.upon_value]
  go_wp2
  rw [run_callFunc_extern Tryz.func164 (by kernel_rfl) (by kernel_rfl) (by kernel_rfl) (e := Extern.AbiNoEscape.same) (by kernel_rfl)]
  rw [Lib.run_noEscape]
  simp only [Result.andThen]
  rw [Oper.upon_value]
  go_wp2
  rw [Lib.run_from_unsafe w ⟨b, 0, none⟩ Tryz.underlying223 Tryz.underlying189 hj hsh Tryz.liesBuilder]
  simp only [Result.andThen]
  rw [Oper.upon_value]
  go_wp2
  go_end0
  exact ⟨rfl, rfl⟩

/-- a Builder that holds these bytes -/
def Bld (B : Nat) (w : World) (tb : Nat) (l : List UInt8) : Prop := Lib.IsBuilder 192 5 B tb (Lib.byteCells l) w

/-- what a Builder's call may turn: itself, and rows of bytes, from B on -/
def BldS (B tb : Nat) (w : World) (k : Nat) : Prop := B ≤ k ∧ (k = tb ∨ TypeIs w k 5)

theorem byteCells_append (l : List UInt8) (s : ByteArray) : Lib.byteCells l ++ Lib.strCells s = Lib.byteCells (l ++ s.data.toList) := by
  simp [Lib.byteCells, Lib.strCells]

set_option maxRecDepth 100000 in
set_option maxHeartbeats 1000000 in
theorem writeString_used (B tb : Nat) (l : List UInt8) (s : ByteArray) (w : World) (h : Lib.BuilderAt 192 5 B tb (.pointer (some ⟨tb, 0, none⟩)) (Lib.byteCells l) w) (hlen : l.length + s.size ≤ 140737488355328) (hBw : B ≤ w.heap.size) (W : World)
    (hC : Calls Tryz.prog 145 #[.pointer (some ⟨tb, 0, none⟩)] W fun e w' => e = .returned (.tuple #[]) ∧ w' = w) (hK : Keeps (BldS B tb W) W w) :
    Calls Tryz.prog 115 #[.pointer (some ⟨tb, 0, none⟩), .string s] W fun e w' => e = .returned (.tuple #[.int .i64 s.size, .nilIface]) ∧ Bld B w' tb (l ++ s.data.toList) ∧ Keeps (BldS B tb W) W w' := by
  obtain ⟨hB, v, hbk, hown, hne⟩ := h
  have HC := hid hC
  obtain ⟨i0, hi, hz0, hz1, hz2⟩ := info_parts Tryz.infoByte
  have c0 : w.cell? ⟨tb, 0, none⟩ = some (.pointer (some ⟨tb, 0, none⟩)) := cell_of_heap hbk 0
  have c1 : w.cell? ⟨tb, 1, none⟩ = some v := cell_of_heap hbk 1
  have HBK := hid hbk
  have HOW := hid hown
  have HNE := hid hne
  have HLN := hid hlen
  have HBW := hid hBw
  have HBB := hid hB
  have HKW := hid hK
  have hlb : (Lib.byteCells l).length = l.length := by simp [Lib.byteCells]
  have HLB := hid hlb
  obtain ⟨ao, n', cap, rfl⟩ : ∃ ao n' cap, v = .slice ao n' cap := by
    rcases hown.2 with ⟨hv, _⟩ | ⟨g, cap, cur, hv, _⟩
    · exact ⟨_, _, _, hv⟩
    · exact ⟨_, _, _, hv⟩
  have HTY : Hid (∀ g, (Value.slice ao n' cap).ownBlock = some g → g < W.heap.size → B ≤ g ∧ (TypeIs W g 5 ∨ g = tb)) := fun g hg hgW => by
    have hBg : B ≤ g := by
      rcases HOW.out.2 with ⟨hv, _⟩ | ⟨g', cap', cur, hv, hb, _⟩
      · rw [hv] at hg
        simp [Value.ownBlock] at hg
      · rw [hv] at hg
        have e1 : g' = g := by simpa [Value.ownBlock] using hg
        rw [← e1]
        exact hb
    refine ⟨hBg, ?_⟩
    by_cases e : g = tb
    · exact .inr e
    · by_cases ht : TypeIs W g 5
      · exact .inl ht
      · exfalso
        rcases HOW.out.2 with ⟨hv, _⟩ | ⟨g', cap', cur, hv, _, hh, _⟩
        · rw [hv] at hg
          simp [Value.ownBlock] at hg
        · rw [hv] at hg
          have e1 : g' = g := by simpa [Value.ownBlock] using hg
          subst e1
          rw [HKW.out.block g' hgW (fun hs => hs.2.elim e ht)] at hh
          exact ht ⟨_, hh⟩
  clear hC hbk hown hne hlen hBw hB hK hlb
  go_enter Tryz.func115, Tryz.ntmps115
  go_wp2_with (first
    | (go_at_call 145; go_must (refine (HC.out).mono ?_; rintro e w1 ⟨rfl, rfl⟩))
    | (at_builtin; go_must (refine Lib.wpList_append_own_string _ rfl _ _ 190 9 rfl B 5 i0 Tryz.underlying190 Tryz.underlying9 hi hz0 hz1 hz2 _ _ _ rfl HOW.out s rfl (by rw [HLB.out]; have := HLN.out; unfold maxLen; omega) (by rw [HLB.out]; exact HLN.out) HBW.out ?_; intro v' w2 hown' hgrow _; have hb2 : w2.heap[tb]? = some (.cells #[.pointer (some ⟨tb, 0, none⟩), .slice ao n' cap] 192 (0, 0)) := (hgrow.block tb (Array.getElem?_eq_some_iff.1 HBK.out).1 (fun e => HNE.out e.symm)).trans HBK.out; have d0 : w2.cell? ⟨tb, 0, none⟩ = some (.pointer (some ⟨tb, 0, none⟩)) := cell_of_heap hb2 0; have d1 : w2.cell? ⟨tb, 1, none⟩ = some (.slice ao n' cap) := cell_of_heap hb2 1; have f1 : w2.frozen? ⟨tb, 1, none⟩ = false := frozen_of_heap hb2 1; obtain ⟨ao2, n2, cap2, rfl⟩ : ∃ ao n' cap, v' = .slice ao n' cap := (by rcases hown'.2 with ⟨hv, _⟩ | ⟨g, cap, cur, hv, _⟩; exact ⟨_, _, _, hv⟩; exact ⟨_, _, _, hv⟩); have X1 := hid (And.intro hown' (And.intro hgrow hb2)); clear hown' hgrow hb2)))
  go_ret2
  obtain ⟨hown', hgrow, hb2⟩ := X1.out
  refine ⟨rfl, ?_, ?_⟩
  · refine .inr ?_
    have := Lib.BuilderAt.put (T := 192) (e := 5) HBB.out hb2 (bs' := Lib.byteCells l ++ Lib.strCells s) (by simpa [Lib.strCells_length] using hown') (by decide)
    rw [byteCells_append] at this
    exact this
  · refine (HKW.out.trans (Keeps.grown hgrow) (fun g hg e => ?_)).tr (Keeps.setCell _ _ _) (fun k e => ⟨by rw [show k = tb from e]; exact HBB.out, .inl e⟩)
    obtain ⟨h0, h⟩ := HTY.out g e.symm hg
    rcases h with h | h
    · exact ⟨h0, .inr h⟩
    · exact ⟨h0, .inl h⟩

theorem writeString_any (B tb : Nat) (l : List UInt8) (s : ByteArray) (w : World) (h : Bld B w tb l) (hlen : l.length + s.size ≤ 140737488355328) (hBw : B ≤ w.heap.size) :
    Calls Tryz.prog 115 #[.pointer (some ⟨tb, 0, none⟩), .string s] w fun e w' => e = .returned (.tuple #[.int .i64 s.size, .nilIface]) ∧ Bld B w' tb (l ++ s.data.toList) ∧ Keeps (BldS B tb w) w w' := by
  rcases h with h | h
  · have hb := h
    obtain ⟨hB, v, hbk, hown, hne⟩ := h
    have h1 : (w.setCell ⟨tb, 0, none⟩ (.pointer (some ⟨tb, 0, none⟩))).heap[tb]? = some (.cells #[.pointer (some ⟨tb, 0, none⟩), v] 192 (0, 0)) := (heap_setCell_same hbk _).trans (by simp)
    have hat : Lib.BuilderAt 192 5 B tb (.pointer (some ⟨tb, 0, none⟩)) (Lib.byteCells l) (w.setCell ⟨tb, 0, none⟩ (.pointer (some ⟨tb, 0, none⟩))) := by
      refine ⟨hB, v, h1, ⟨hown.1, ?_⟩, hne⟩
      rcases hown.2 with h2 | ⟨g, cap, cur, rfl, hg, hh, r⟩
      · exact .inl h2
      · exact .inr ⟨g, cap, cur, rfl, hg, ((Keeps.setCell w ⟨tb, 0, none⟩ _).block g (Array.getElem?_eq_some_iff.1 hh).1 (fun e => hne (by rw [show g = tb from e]; rfl))).trans hh, r⟩
    exact writeString_used B tb l s _ hat hlen (by simpa [World.setCell] using hBw) w (copyCheck_fresh tb w hb.cell0 hb.shape hb.frozen0) ((Keeps.setCell _ _ _).mono (fun k _ e => ⟨by rw [show k = tb from e]; exact hB, .inl e⟩))
  · exact writeString_used B tb l s w h hlen hBw w (copyCheck_used tb w h.cell0) (Keeps.refl _ _)

end Go.Proofs.YtpagenipflmlfaaGreatDoor

/- slices.Chunk of records, by four. -/

namespace Go.Proofs.YtpagenipflmlfaaGreatDoor

open Go.RowKit Go.Shelf

attribute [local go_sem] Oper.semAt_some

/-- how many are in the x-th chunk of n -/
def chunkN (n x : Nat) : Nat := min 4 (n - 4 * x)

/-- the x-th chunk -/
def chunkV (oa : Option Addr) (n x : Nat) : Value := match oa with
  | some ⟨g, off, none⟩ => .slice (some ⟨g, off + 4 * x * 3, none⟩) (chunkN n x) (chunkN n x)
  | o => .slice o (chunkN n x) (chunkN n x)

theorem min_i64 (a b : Int) (W : World) : (Builtin.min_ #[3, 3] 3 #[.int .i64 a, .int .i64 b]).run Tryz.prog W = .ok (.int .i64 (min a b)) W := by
  by_cases h : a ≤ b
  · rw [Int.min_eq_left h]
    simp [Builtin.min_, Builtin.min2]
    omega
  · rw [Int.min_eq_right (by omega)]
    simp [Builtin.min_, Builtin.min2]
    omega

set_option maxRecDepth 100000 in
set_option maxHeartbeats 1000000 in
theorem chunk_any (oa : Option Addr) (n cap : Nat) (w : World) :
    Calls Tryz.prog 116 #[.slice oa n cap, .int .i64 4] w fun e w' => e = .returned (.func (.func 146) #[] #[.pointer (some ⟨w.heap.size, 0, none⟩), .pointer (some ⟨w.heap.size + 1, 0, none⟩)]) ∧ w' = (w.alloc (.cells #[.slice oa n cap] 82)).alloc (.cells #[.int .i64 4] 3) := by
  have hmf : ∀ (fn : Fn) (first cap : Array Value) (w : World), (Instr.makeFunc fn first cap).run Tryz.prog w = .ok (.func fn first cap) w := fun _ _ _ _ => rfl
  go_enter Tryz.func116, Tryz.ntmps116
  go_wp2
  go_ret
  exact ⟨rfl, rfl⟩

set_option maxRecDepth 100000 in
set_option maxHeartbeats 1000000 in
theorem chunk1_all (pa pb : Nat) (oa : Option Addr) (n cap : Nat) (w : World) (h1 : w.heap[pa]? = some (.cells #[.slice oa n cap] 82 (0, 0))) (h2 : w.heap[pb]? = some (.cells #[.int .i64 4] 3 (0, 0))) (hn : n ≤ 1000) (hc : n ≤ cap) (hcm : cap ≤ maxLen) (hoa : n = 0 ∨ ∃ g off, oa = some ⟨g, off, none⟩) :
    SeqAll Fence.wide 7 Tryz.prog 146 #[.pointer (some ⟨pa, 0, none⟩), .pointer (some ⟨pb, 0, none⟩)] (fun x : Nat => #[chunkV oa n x]) (Keeps (fun _ => False)) (KpM [pa, pb]) (fun xs => xs = List.range ((n + 3) / 4)) ((n + 3) / 4) w := by
  intro l J W hW hJC hY h0
  have g1 : W.heap[pa]? = some (.cells #[.slice oa n cap] 82 (0, 0)) := (hW.block pa (Array.getElem?_eq_some_iff.1 h1).1 (fun h => h)).trans h1
  have g2 : W.heap[pb]? = some (.cells #[.int .i64 4] 3 (0, 0)) := (hW.block pb (Array.getElem?_eq_some_iff.1 h2).1 (fun h => h)).trans h2
  unfold maxLen at hcm
  clear h1 h2
  refine callsIn_of_wp Tryz.func146 rfl trivial ?_ rfl
  simp only [Tryz.ntmps146, List.size_toArray, List.length_cons, List.length_nil, Nat.reduceAdd, Nat.reduceSub, Array.replicate_succ, Array.replicate_zero, List.push_toArray, List.append_toArray, List.nil_append, List.cons_append]
  gi_wp2
  gi_loopw [4] (fun i wr => ∃ k : Nat, i = .int .i64 ((4 * k : Nat) : Int) ∧ k ≤ (n + 3) / 4 ∧ J (List.range k) wr ∧ wr.heap[pa]? = some (.cells #[.slice oa n cap] 82 (0, 0)) ∧ wr.heap[pb]? = some (.cells #[.int .i64 4] 3 (0, 0))) (fun i _ => n + 4 - (intOf i).toNat)
  case atStart => exact ⟨0, rfl, Nat.zero_le _, h0, g1, g2⟩
  case round =>
    obtain ⟨k, rfl, hk, hJ, g1, g2⟩ := hrel
    clear h0 hW
    have c1 := cell_of_heap g1 0
    have c2 := cell_of_heap g2 0
    simp at c1 c2
    have G1 := hid g1
    have G2 := hid g2
    have HJ := hid hJ
    have HJC := hid hJC
    have HY := hid hY
    have HK := hid hk
    clear g1 g2 hJ hJC hY
    by_cases hlt : 4 * k < n
    · have HKL : Hid (k < (n + 3) / 4) := by show _ < _; omega
      obtain ⟨g, off, rfl⟩ : ∃ g off, oa = some ⟨g, off, none⟩ := by
        rcases hoa with e | h
        · omega
        · exact h
      have hmin : ∀ W, (Builtin.min_ #[3, 3] 3 #[.int .i64 4, .int .i64 ((n - 4 * k : Nat) : Int)]).run Tryz.prog W = .ok (.int .i64 ((chunkN n k : Nat) : Int)) W := fun W => by
        rw [min_i64]
        unfold chunkN
        congr 3
        omega
      have HE : Hid (chunkV (some ⟨g, off, none⟩) n k = .slice (some ⟨g, off + 4 * k * 3, none⟩) (chunkN n k) (chunkN n k)) := hid rfl
      have hcn : 0 < chunkN n k ∧ 4 * k + chunkN n k ≤ n := by unfold chunkN; omega
      have HC4 : Hid (chunkN n k ≤ 4) := by show _ ≤ _; unfold chunkN; omega
      obtain ⟨hc0, hc1⟩ := hcn
      generalize chunkN n k = m at *
      clear hk
      have HY3 := hid (HY.out (List.range k) k wr.drew (HJC.out _ wr _ (Keeps.drew _ _) HJ.out) (by rw [List.length_range]; exact HKL.out))
      rw [HE.out] at HY3
      have HSZ : Hid (∀ W4, KpM [pa, pb] wr.drew W4 → W4.heap[pa]? = some (.cells #[.slice (some ⟨g, off, none⟩) n cap] 82 (0, 0)) ∧ W4.heap[pb]? = some (.cells #[.int .i64 4] 3 (0, 0))) := fun W4 h4 => ⟨(h4.2 pa (by simp)).trans G1.out, (h4.2 pb (by simp)).trans G2.out⟩
      clear HY HJC HJ HE
      gi_wp2
      gi_region
      obtain ⟨fn, tmps, assign, body, hy, hR⟩ := HY3.out
      clear HY3
      gi_wp2
      refine hR.mono ?_
      rintro e W4 ⟨rfl, hJ4, hk4⟩
      obtain ⟨p1, p2⟩ := HSZ.out W4 hk4
      have q2 := cell_of_heap p2 0
      simp at q2
      have P1 := hid p1
      have P2 := hid p2
      have HJ4 := hid hJ4
      clear p1 p2 hJ4 hk4 hy hR
      gi_wp2
      refine ⟨⟨k + 1, by go_num, HKL.out, by rw [List.range_succ]; exact HJ4.out, P1.out, P2.out⟩, ?_⟩
      simp only [intOf]
      omega
    · have e : k = (n + 3) / 4 := by omega
      clear hk
      gi_wp2
      go_end0
      exact ⟨⟨_, rfl⟩, _, by rw [e], HJ.out⟩

end Go.Proofs.YtpagenipflmlfaaGreatDoor

/- strings.Builder: String. -/

namespace Go.Proofs.YtpagenipflmlfaaGreatDoor

open Go.RowKit Go.Shelf

set_option maxRecDepth 100000 in
set_option maxHeartbeats 1000000 in
theorem string_any (B tb : Nat) (l : List UInt8) (w : World) (h : Bld B w tb l) (h0 : l ≠ []) :
    Calls Tryz.prog 117 #[.pointer (some ⟨tb, 0, none⟩)] w fun e w' => e = .returned (.string (ofL l)) ∧ Keeps (BldS B tb w) w w' := by
  obtain ⟨p, hB, v, hbk, hown, hne⟩ : ∃ p, Lib.BuilderAt 192 5 B tb p (Lib.byteCells l) w := by
    rcases h with h | h
    · exact ⟨_, h⟩
    · exact ⟨_, h⟩
  have hl0 : l.length ≠ 0 := by simpa using h0
  rw [Lib.byteCells_length] at hown
  obtain ⟨g, cap, cur, rfl, hbg, hg, hnc, hcm, hcs, htake⟩ : ∃ g cap cur, v = .slice (some ⟨g, 0, none⟩) l.length cap ∧ B ≤ g ∧ w.heap[g]? = some (.cells cur 5 (0, 0)) ∧ l.length ≤ cap ∧ cap ≤ maxLen ∧ cur.size = cap * 1 ∧ cur.toList.take (l.length * 1) = Lib.byteCells l := by
    rcases hown.2 with ⟨_, hz⟩ | ⟨g, cap, cur, hv, r⟩
    · exact absurd hz hl0
    · exact ⟨g, cap, cur, hv, r⟩
  have c1 : w.drew.cell? ⟨tb, 1, none⟩ = some (.slice (some ⟨g, 0, none⟩) l.length cap) := by
    have : w.drew.heap[tb]? = some (.cells #[p, .slice (some ⟨g, 0, none⟩) l.length cap] 192 (0, 0)) := hbk
    rw [Lib.cell_of_heap this]; rfl
  have hSD : (Builtin.unsafeSliceData_ #[190] 236 #[.slice (some ⟨g, 0, none⟩) l.length cap]).run Tryz.prog w.drew = .ok (.pointer (some ⟨g, 0, none⟩)) w.drew :=
    Lib.run_unsafeSliceData_row _ _ _ _ _ _ (by omega)
  have hUS : (Builtin.unsafeString_ #[236, 3] 9 #[.pointer (some ⟨g, 0, none⟩), .int .i64 l.length]).run Tryz.prog w.drew = .ok (.string (ofL l)) (w.drew.freeze ⟨g, 0, none⟩ l.length) := by
    refine Lib.run_unsafeString_row w.drew 236 3 9 5 Tryz.underlying236 (by kernel_rfl) g cur.size (by have hg' : w.drew.heap[g]? = some (.cells cur 5 (0, 0)) := hg; simp [World.shape?, hg']) l h0 (by omega) (by unfold maxLen at hcm; omega) ?_
    intro j x hx
    have := hown.cells (g := g) rfl j (.int .u8 x.toNat) (by simp [Lib.byteCells, hx])
    exact this
  have HK : Hid (Keeps (BldS B tb w) w (w.drew.freeze ⟨g, 0, none⟩ l.length)) := by
    have hb := Lib.below_freeze (Below.drew (Below.refl g w)) (p := ⟨g, 0, none⟩) (Nat.le_refl g) l.length
    refine ⟨hb.os, hb.tape, hb.output, hb.size, fun k hk hS => ?_⟩
    have hkg : k ≠ g := fun e => hS ⟨by rw [e]; exact hbg, .inr ⟨cur, by rw [e]; exact hg⟩⟩
    unfold World.freeze
    rw [if_neg hl0]
    simp only [Array.getElem?_modify]
    rw [if_neg (fun e => hkg e.symm)]
    rfl
  clear hbk hown hne hg hcs htake hcm
  generalize ofL l = s at *
  go_enter Tryz.func117, Tryz.ntmps117
  go_wp2
  go_region
  all_goals (go_wp2; go_ret; exact ⟨rfl, HK.out⟩)

end Go.Proofs.YtpagenipflmlfaaGreatDoor
