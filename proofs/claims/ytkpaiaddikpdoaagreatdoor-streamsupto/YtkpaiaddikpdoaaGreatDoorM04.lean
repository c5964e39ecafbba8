import Derived.Test.YtkpaiaddikpdoaaGreatDoorM03

/- A Writer: Tail. -/
namespace Go.Proofs.YtkpaiaddikpdoaaGreatDoor
open Go.RowKit Go.Shelf

def tailL (sum count : Nat) : List UInt8 := (numL 0 ++ numL count) ++ sumL (ovL sum (numL 0 ++ numL count))

set_option maxRecDepth 100000 in
set_option maxHeartbeats 1000000 in
theorem tail_any (wb o : Nat) (cs : Array Value) (t : TypeId) (sum count : Nat) (w : World) (hb : w.heap[wb]? = some (.cells cs t (0, 0))) (ho : cs[o]? = some (.int .u32 (sum : Nat))) (ho1 : cs[o + 1]? = some (.int .i64 (count : Nat))) (hs : sum < 4294967296) (hc : count < 9223372036854775808) (ht : TurnsAt w) :
    Calls Tryz.prog 38 #[.pointer (some ⟨wb, o, none⟩)] w fun e w' => e = .returned (.string (ofL (tailL sum count))) ∧ Keeps (fun _ => False) w w' := by
  have HF : Hid (∀ W, Keeps (fun _ => False) w W → W.heap[wb]? = some (.cells cs t (0, 0))) := fun W hW => (hW.block wb (Array.getElem?_eq_some_iff.1 hb).1 (fun h => h)).trans hb
  have HCO : Hid (∀ W, Keeps (fun _ => False) w W → W.cell? ⟨wb, o, none⟩ = some (.int .u32 (sum : Nat)) ∧ W.cell? ⟨wb, o + 1, none⟩ = some (.int .i64 (count : Nat))) := fun W hW => ⟨(cell_of_heap (HF.out W hW) o).trans ho, (cell_of_heap (HF.out W hW) (o + 1)).trans ho1⟩
  obtain ⟨c0, c1⟩ := HCO.out w (Keeps.refl _ _)
  have z1 := num_text 0 (by omega)
  have z2 := num_text count hc
  have HN1 := hid (fun W => number_any 0 W (by omega))
  have HN2 := hid (fun W => number_any count W hc)
  have hE : ofL (numL 0 ++ numL count) = ofL (numL 0) ++ ofL (numL count) := (ofL_append _ _).symm
  have hsz : (ofL (numL 0 ++ numL count)).size ≤ 18 := by rw [hE]; simp only [ByteArray.size_append]; omega
  have HOV := hid (fun W (hW : Keeps (fun _ => False) w W) => checkOver_any sum (ofL (numL 0 ++ numL count)) W hs (by unfold maxLen; omega) (ht.kept hW (fun h => h)))
  rw [ofL_list] at HOV
  have HBY := hid (fun W => checkBytes_any (ovL sum (numL 0 ++ numL count)) W (ovL_lt _ _))
  have z3 : (ofL (sumL (ovL sum (numL 0 ++ numL count)))).size = 4 := by rw [ofL_size]; rfl
  have HR : Hid (ofL (tailL sum count) = ofL (numL 0 ++ numL count) ++ ofL (sumL (ovL sum (numL 0 ++ numL count)))) := (ofL_append _ _).symm
  rw [HR.out]
  generalize ovL sum (numL 0 ++ numL count) = sm at *
  generalize ofL (sumL sm) = t4 at *
  generalize ofL (numL 0 ++ numL count) = t3 at *
  generalize ofL (numL 0) = t1 at *
  generalize ofL (numL count) = t2 at *
  have hr1 : ∀ W, (Op.stringOp .add t1 t2).run Tryz.prog W = .ok (.string t3) W := fun W => by rw [hE]; exact run_string_add_sum W _ _ (by omega)
  clear hb ht hs hc ho ho1 HR hE
  go_enter Tryz.func38, Tryz.ntmps38
  go_wp2_with fail
  go_region_held3 (fun W => W.cell? ⟨wb, o + 1, none⟩ = some (.int .i64 (count : Nat))) (go_keep) (first
    | (go_at_call 56; have hh := HK1.out; clear hh; refine (HN2.out _).mono ?_; rintro e w2 ⟨rfl, k2⟩; have HK2 := hid (HK1.out.tr k2 (fun _ h => h)); obtain ⟨e0, e1⟩ := HCO.out _ HK2.out; clear k2)
    | (go_at_call 56; refine (HN1.out _).mono ?_; rintro e w1 ⟨rfl, k1⟩; have HK1 := hid ((Keeps.drew (fun _ => False) _).tr k1 (fun _ h => h)); obtain ⟨d0, d1⟩ := HCO.out _ HK1.out; clear k1))
  clear c0 c1
  go_wp2_with fail
  refine (HOV.out _ HK2.out).mono ?_
  rintro e w2 ⟨rfl, rfl⟩
  go_wp2_with fail
  refine (HBY.out _).mono ?_
  rintro e w3 ⟨rfl, k3⟩
  have HK3 := hid (HK2.out.tr k3 (fun _ h => h))
  clear k3
  go_wp2
  go_ret
  exact ⟨rfl, HK3.out⟩

end Go.Proofs.YtkpaiaddikpdoaaGreatDoor

/- annalsref: Number, alike, Head, IsKey, IsValue. -/
namespace Go.Proofs.YtkpaiaddikpdoaaGreatDoor
open Go.RowKit Go.Shelf

/-- one byte that was just laid, as a text -/
theorem byte_new {W : World} {g : Nat} {n : Int} (h : W.heap[g]? = some (.cells #[.int .u8 n] 5 (0, 0))) (hn : 0 ≤ n ∧ n < 256) :
    (convert 86 9 (.slice (some ⟨g, 0, none⟩) 1 1)).run Tryz.prog W = .ok (.string (ofL [UInt8.ofNat n.toNat])) W := by
  have := run_convert_bytes_back (P := Tryz.prog) W 86 9 5 ⟨g, 0, none⟩ 1 [UInt8.ofNat n.toNat] Tryz.underlying86 Tryz.underlying5 Tryz.underlying9 (fun j hj => by
    have e : j = 0 := by simpa using hj
    subst e
    rw [Addr.add_lit, Nat.zero_add, cell_of_heap h 0]
    have e2 : ([UInt8.ofNat n.toNat][0].toNat : Int) = n := by
      show ((UInt8.ofNat n.toNat).toNat : Int) = n
      rw [toNat_ofNat (by omega)]
      omega
    rw [e2]
    rfl)
  exact this

set_option maxRecDepth 100000 in
set_option maxHeartbeats 1000000 in
theorem refNumber_any : ∀ (f n : Nat) (w : World), n < 128 ^ (f + 1) → n < 4611686018427387904 → Calls Tryz.prog 44 #[.int .i64 (n : Nat)] w fun e w' => e = .returned (.string (ofL (numL n))) ∧ Keeps (fun _ => False) w w' := by
  intro f
  induction f with
  | zero =>
    intro n w h _
    have hn : (n : Int) < 128 := by simp at h; omega
    have hb := byte_new (heap_new w (.cells #[.int .u8 (n : Int)] 5)) (by omega)
    have e : numL n = [UInt8.ofNat (n : Int).toNat] := by rw [numL_small (by omega)]; rfl
    rw [e]
    generalize ofL [UInt8.ofNat (n : Int).toNat] = r at *
    clear e h
    go_enter Tryz.func44, Tryz.ntmps44
    go_wp2
    go_ret
    exact ⟨rfl, (Keeps.refl _ _).al _⟩
  | succ f ih =>
    intro n w h h2
    by_cases hn : n < 128
    · have hnI : (n : Int) < 128 := by omega
      have hb := byte_new (heap_new w (.cells #[.int .u8 (n : Int)] 5)) (by omega)
      have e : numL n = [UInt8.ofNat (n : Int).toNat] := by rw [numL_small hn]; rfl
      rw [e]
      generalize ofL [UInt8.ofNat (n : Int).toNat] = r at *
      clear e h ih h2 hn
      go_enter Tryz.func44, Tryz.ntmps44
      go_wp2
      go_ret
      exact ⟨rfl, (Keeps.refl _ _).al _⟩
    · have hnI : ¬ ((n : Int) < 128) := by omega
      have hnJ : (n : Int) < 4611686018427387904 := by omega
      have HIH : Hid (∀ W, Calls Tryz.prog 44 #[.int .i64 ((n : Int) / 128)] W fun e w' => e = .returned (.string (ofL (numL (n / 128)))) ∧ Keeps (fun _ => False) W w') := fun W => by
        have := ih (n / 128) W (by rw [Nat.pow_succ] at h; omega) (by omega)
        exact this
      have e : numL n = UInt8.ofNat (128 + (n : Int) % 128).toNat :: numL (n / 128) := by
        rw [numL_great hn]
        congr 2
        omega
      have hl := numL_len 9 (n / 128) (by omega)
      have HB : Hid (∀ W g, W.heap[g]? = some (.cells #[.int .u8 (128 + (n : Int) % 128)] 5 (0, 0)) → (convert 86 9 (.slice (some ⟨g, 0, none⟩) 1 1)).run Tryz.prog W = .ok (.string (ofL [UInt8.ofNat (128 + (n : Int) % 128).toNat])) W) := fun W g hg => byte_new hg (by omega)
      have HE : Hid (ofL [UInt8.ofNat (128 + (n : Int) % 128).toNat] ++ ofL (numL (n / 128)) = ofL (numL n)) := by show _ = _; rw [ofL_append, e]; rfl
      have hadd : ∀ W, (Op.stringOp .add (ofL [UInt8.ofNat (128 + (n : Int) % 128).toNat]) (ofL (numL (n / 128)))).run Tryz.prog W = .ok (.string (ofL (numL n))) W := fun W => by rw [← HE.out]; exact run_string_add_sum W _ _ (by rw [ofL_size, ofL_size]; simp; omega)
      have hw1 : (n : Int).tmod 128 = (n : Int) % 128 := Int.tmod_eq_emod_of_nonneg (by omega)
      have hw2 : IntKind.i64.wrap (128 + (n : Int) % 128) = 128 + (n : Int) % 128 := IntWalk.i64_in _ ⟨by omega, by omega⟩
      have hw3 : IntKind.u8.wrap (128 + (n : Int) % 128) = 128 + (n : Int) % 128 := by rw [IntKind.wrap_u8]; omega
      have hw4 : IntKind.i64.wrap ((n : Int) / 128) = (n : Int) / 128 := IntWalk.i64_in _ ⟨by omega, by omega⟩
      have hb0 : (convert 86 9 (.slice (some ⟨w.heap.size, 0, none⟩) 1 1)).run Tryz.prog (w.alloc (.cells #[.int .u8 (128 + (n : Int) % 128)] 5)).drew = _ := byte_new (heap_new w (.cells #[.int .u8 (128 + (n : Int) % 128)] 5)) (by omega)
      generalize ofL [UInt8.ofNat (128 + (n : Int) % 128).toNat] = b1 at *
      generalize ofL (numL (n / 128)) = b2 at *
      generalize ofL (numL n) = b3 at *
      clear e hl h ih h2 hn
      go_enter Tryz.func44, Tryz.ntmps44
      go_wp2_with fail
      go_region_with (go_at_call 44; refine (HIH.out _).mono ?_; rintro e w1 ⟨rfl, k1⟩; (try (have hz1 := HB.out w1 w.heap.size ((k1.block w.heap.size (by simp) (fun h => h)).trans (heap_new w _)))); have hz2 := HB.out (w1.alloc (.cells #[.int .u8 (128 + (n : Int) % 128)] 5)) w1.heap.size (heap_new w1 _))
      all_goals (go_wp2; go_ret; first | exact ⟨rfl, ((Keeps.refl _ w).dr.tr k1 (fun _ h => h)).al _⟩ | exact ⟨rfl, ((Keeps.refl _ w).al _).dr.tr k1 (fun _ h => h)⟩)

end Go.Proofs.YtkpaiaddikpdoaaGreatDoor

/- annalsref: alike, IsKey, IsValue, Head. -/
namespace Go.Proofs.YtkpaiaddikpdoaaGreatDoor
open Go.RowKit Go.Shelf

set_option maxRecDepth 100000 in
set_option maxHeartbeats 1000000 in
theorem alike_any (a b : ByteArray) (w : World) (ha : a.size ≤ maxLen) :
    Calls Tryz.prog 61 #[.string a, .string b] w fun e w' => e = .returned (.int .i64 (common a.data.toList b.data.toList : Nat)) ∧ Keeps (fun _ => False) w w' := by
  have HLT : Hid (∀ k, k < common a.data.toList b.data.toList → ∃ (h1 : k < a.size) (h2 : k < b.size), a[k] = b[k]) := fun k hk => by
    obtain ⟨h1, h2, h3⟩ := common_lt _ _ k hk
    exact ⟨by simpa using h1, by simpa using h2, by simp only [Array.getElem_toList] at h3; exact h3⟩
  have HST : Hid (common a.data.toList b.data.toList = a.size ∨ common a.data.toList b.data.toList = b.size ∨ ∃ (h1 : common a.data.toList b.data.toList < a.size) (h2 : common a.data.toList b.data.toList < b.size), a[common a.data.toList b.data.toList] ≠ b[common a.data.toList b.data.toList]) := by
    rcases common_stop a.data.toList b.data.toList with h | h | ⟨h1, h2, h3⟩
    · exact .inl (by simpa using h)
    · exact .inr (.inl (by simpa using h))
    · exact .inr (.inr ⟨by simpa using h1, by simpa using h2, by simp only [Array.getElem_toList, ne_eq] at h3; exact h3⟩)
  have HLE : Hid (common a.data.toList b.data.toList ≤ a.size ∧ common a.data.toList b.data.toList ≤ b.size) := by
    have := common_le a.data.toList b.data.toList
    show _ ∧ _
    simpa using this
  generalize common a.data.toList b.data.toList = c at *
  unfold maxLen at ha
  go_enter Tryz.func61, Tryz.ntmps61
  go_wp2_with fail
  go_loopw [5] (fun i wr => ∃ k : Nat, k ≤ c ∧ i = .int .i64 k ∧ Keeps (fun _ => False) w wr) (fun i _ => c - (intOf i).toNat)
  case atStart => exact ⟨0, Nat.zero_le _, rfl, Keeps.refl _ _⟩
  case round =>
    obtain ⟨k, hk, rfl, hkr⟩ := hrel
    have HKR := hid hkr
    clear hkr
    by_cases hlt : k < c
    · obtain ⟨h1, h2, h3⟩ := HLT.out k hlt
      have d1 : decide (k < a.size) = true := decide_eq_true (by omega)
      have d2 : decide (k < b.size) = true := decide_eq_true (by omega)
      go_wp2_with fail
      go_quiet (fail)
      go_wp2
      exact ⟨⟨k + 1, by omega, by go_num, HKR.out.drN _⟩, by simp only [intOf]; omega⟩
    · have e : k = c := by omega
      subst e
      rcases HST.out with h | h | ⟨h1, h2, h3⟩
      · have d1 : decide (k < a.size) = false := decide_eq_false (by omega)
        go_wp2_with fail
        go_quiet (fail)
        go_wp2
        go_ret
        exact ⟨rfl, HKR.out.drN _⟩
      · by_cases ha1 : k < a.size
        · have d1 : decide (k < a.size) = true := decide_eq_true (by omega)
          have d2 : decide (k < b.size) = false := decide_eq_false (by omega)
          clear h ha1 HST HLE HLT hlt hk
          go_wp2_with fail
          go_quiet (fail)
          go_wp2
          go_ret
          exact ⟨rfl, HKR.out.drN _⟩
        · have d1 : decide (k < a.size) = false := decide_eq_false (by omega)
          clear h ha1 HST HLE HLT hlt hk
          go_wp2_with fail
          go_quiet (fail)
          go_wp2
          go_ret
          exact ⟨rfl, HKR.out.drN _⟩
      · have d1 : decide (k < a.size) = true := decide_eq_true (by omega)
        have d2 : decide (k < b.size) = true := decide_eq_true (by omega)
        have h4 : ¬ a[k].toNat = b[k].toNat := fun e => h3 (UInt8.toNat_inj.1 e)
        go_wp2_with fail
        go_quiet (fail)
        go_wp2
        go_ret
        exact ⟨rfl, HKR.out.drN _⟩

theorem isKeyR_any (s : ByteArray) (w : World) (hs : s.size ≤ maxLen) :
    Calls Tryz.prog 40 #[.string s] w fun e w' => e = .returned (.bool (keyB s)) ∧ w' = w := by
  unfold maxLen at hs
  go_enter Tryz.func40, Tryz.ntmps40
  go_wp2
  all_goals go_ret
  all_goals
    refine ⟨ret_bool ?_, rfl⟩
    unfold keyB
    rw [Bool.eq_iff_iff]
    simp
    omega

theorem isValueR_any (s : ByteArray) (w : World) (hs : s.size ≤ maxLen) :
    Calls Tryz.prog 41 #[.string s] w fun e w' => e = .returned (.bool (valB s)) ∧ w' = w := by
  unfold maxLen at hs
  go_enter Tryz.func41, Tryz.ntmps41
  go_wp2
  all_goals go_ret
  refine ⟨ret_bool ?_, rfl⟩
  unfold valB
  rw [Bool.eq_iff_iff]
  simp
  omega

set_option maxRecDepth 100000 in
set_option maxHeartbeats 1000000 in
theorem refHead_any (full : Bool) (a b : Nat) (v : Value) (w : World) (ha : a ≤ 1000000000) (hb : b ≤ 1000000000) (hsl : ∃ oa n c, v = .slice oa n c) :
    Calls Tryz.prog 42 #[.agg #[.bool full, .int .i64 (a : Nat), .int .i64 (b : Nat), v]] w fun e w' => e = .returned (.string (ofL (headL full a b))) ∧ Keeps (fun _ => False) w w' := by
  obtain ⟨oa, n, c, rfl⟩ := hsl
  have n1 := numL_len 8 a (by omega)
  have n2 := numL_len 8 b (by omega)
  have HN1 := hid (fun W => refNumber_any 8 a W (by omega) (by omega))
  have HN2 := hid (fun W => refNumber_any 8 b W (by omega) (by omega))
  have hk : (ofL (kindL full)).size = 4 := kind_text full
  have HE : Hid (ofL (headL full a b) = ofL (kindL full) ++ ofL (numL a) ++ ofL (numL b)) := by show _ = _; unfold headL; rw [ofL_append, ofL_append]
  rw [HE.out]
  have z1 : (ofL (numL a)).size ≤ 9 := by rw [ofL_size]; exact n1
  have z2 : (ofL (numL b)).size ≤ 9 := by rw [ofL_size]; exact n2
  generalize ofL (numL a) = t1 at *
  generalize ofL (numL b) = t2 at *
  have hr1 : ∀ W, (Op.stringOp .add (ofL (kindL full)) t1).run Tryz.prog W = .ok (.string (ofL (kindL full) ++ t1)) W := fun W => run_string_add_sum W _ _ (by omega)
  have hr2 : ∀ W, (Op.stringOp .add (ofL (kindL full) ++ t1) t2).run Tryz.prog W = .ok (.string (ofL (kindL full) ++ t1 ++ t2)) W := fun W => run_string_add_sum W _ _ (by rw [ByteArray.size_append]; omega)
  have HCO : Hid (∀ W, Keeps (fun _ => False) (w.alloc (.cells #[.bool full, .int .i64 (a : Nat), .int .i64 (b : Nat), .slice oa n c] 34)) W → W.cell? ⟨w.heap.size, 1, none⟩ = some (.int .i64 (a : Nat)) ∧ W.cell? ⟨w.heap.size, 2, none⟩ = some (.int .i64 (b : Nat))) := fun W hW => ⟨cell_of_heap (box_kept hW (fun h => h)) 1, cell_of_heap (box_kept hW (fun h => h)) 2⟩
  clear n1 n2 z1 z2 hk ha hb HE
  cases full with
  | true =>
    have ek : ofL (kindL true) = ⟨#[65, 78, 78, 70]⟩ := rfl
    rw [ek] at hr1 hr2 ⊢
    go_enter Tryz.func42, Tryz.ntmps42
    go_wp2_with fail
    go_region_held3 (fun W => W.cell? ⟨w.heap.size, 1, none⟩ = some (.int .i64 (a : Nat)) ∧ W.cell? ⟨w.heap.size, 2, none⟩ = some (.int .i64 (b : Nat))) (go_keep) (first
      | (go_at_call 44; have hh := HK1.out; clear hh; refine (HN2.out _).mono ?_; rintro e w2 ⟨rfl, k2⟩; have HK2 := hid (HK1.out.tr k2 (fun _ h => h)); obtain ⟨e1, e2⟩ := HCO.out _ HK2.out; clear k2)
      | (go_at_call 44; refine (HN1.out _).mono ?_; rintro e w1 ⟨rfl, k1⟩; have HK1 := hid ((Keeps.drew (fun _ => False) _).tr k1 (fun _ h => h)); obtain ⟨d1, d2⟩ := HCO.out _ HK1.out; clear k1))
    go_wp2
    go_ret
    exact ⟨rfl, ((Keeps.refl _ w).al _).tr HK2.out (fun _ h => h)⟩
  | false =>
    have ek : ofL (kindL false) = ⟨#[65, 78, 78, 68]⟩ := rfl
    rw [ek] at hr1 hr2 ⊢
    go_enter Tryz.func42, Tryz.ntmps42
    go_wp2_with fail
    go_region_held3 (fun W => W.cell? ⟨w.heap.size, 1, none⟩ = some (.int .i64 (a : Nat)) ∧ W.cell? ⟨w.heap.size, 2, none⟩ = some (.int .i64 (b : Nat))) (go_keep) (first
      | (go_at_call 44; have hh := HK1.out; clear hh; refine (HN2.out _).mono ?_; rintro e w2 ⟨rfl, k2⟩; have HK2 := hid (HK1.out.tr k2 (fun _ h => h)); obtain ⟨e1, e2⟩ := HCO.out _ HK2.out; clear k2)
      | (go_at_call 44; refine (HN1.out _).mono ?_; rintro e w1 ⟨rfl, k1⟩; have HK1 := hid ((Keeps.drew (fun _ => False) _).tr k1 (fun _ h => h)); obtain ⟨d1, d2⟩ := HCO.out _ HK1.out; clear k1))
    go_wp2
    go_ret
    exact ⟨rfl, ((Keeps.refl _ w).al _).tr HK2.out (fun _ h => h)⟩

end Go.Proofs.YtkpaiaddikpdoaaGreatDoor

/- A Writer: Block. -/
namespace Go.Proofs.YtkpaiaddikpdoaaGreatDoor
open Go.RowKit Go.Shelf

/-- records that lie somewhere in a block -/
def RecIn (w : World) (oa : Option Addr) (l : List RecB) : Prop := ∀ i (h : i < l.length), ∃ g off, oa = some ⟨g, off, none⟩ ∧ w.cell? ⟨g, off + i * 3, none⟩ = some (.string l[i].key) ∧ w.cell? ⟨g, off + i * 3 + 1, none⟩ = some (.string l[i].value) ∧ w.cell? ⟨g, off + i * 3 + 2, none⟩ = some (.bool l[i].gone)

theorem RecIn.kept {w w' : World} {oa : Option Addr} {l : List RecB} (h : RecIn w oa l) (hk : Keeps (fun _ => False) w w') : RecIn w' oa l := fun i hi => by
  obtain ⟨g, off, e, h1, h2, h3⟩ := h i hi
  exact ⟨g, off, e, hk.cell h1 (fun h => h), hk.cell h2 (fun h => h), hk.cell h3 (fun h => h)⟩

def lastK (a : List UInt8) (l : List Rec) : List UInt8 := (l.getLast?.map Rec.key).getD a
theorem recsL_snoc : ∀ (l : List Rec) (a : List UInt8) (r : Rec), recsL a (l ++ [r]) = recsL a l ++ recL (lastK a l) r
  | [], a, r => by simp [recsL, lastK]
  | x :: l, a, r => by
    have ih := recsL_snoc l x.key r
    have e : lastK a (x :: l) = lastK x.key l := by
      unfold lastK
      rw [List.getLast?_cons]
      cases l.getLast? <;> rfl
    rw [e, List.cons_append, recsL, recsL, ih, List.append_assoc]

/-- the key ahead of the k-th -/
def aheadB (l : List RecB) (k : Nat) : ByteArray := ((l.take k).getLast?.map RecB.key).getD ⟨#[]⟩
theorem ahead_last (l : List RecB) (k : Nat) : (aheadB l k).data.toList = lastK [] ((l.take k).map RecB.rec_) := by
  unfold aheadB lastK
  rw [List.getLast?_map]
  cases (l.take k).getLast? <;> rfl

theorem ahead_next {l : List RecB} {k : Nat} (hk : k < l.length) : aheadB l (k + 1) = l[k].key := by
  unfold aheadB
  rw [List.take_succ_eq_append_getElem hk, List.getLast?_concat]
  rfl

theorem recL_len (a : List UInt8) (r : Rec) (hk : r.key.length ≤ 1000) (hv : r.value.length ≤ 1000) : (recL a r).length ≤ 2027 := by
  have h1 := (common_le a r.key).2
  have n1 := numL_len 8 (common a r.key) (by omega)
  have n2 := numL_len 8 (r.key.length - common a r.key) (by omega)
  have n3 := numL_len 8 (1 + r.value.length) (by omega)
  have n4 := numL_len 8 0 (by omega)
  unfold recL tailOf
  split
  · simp only [List.length_append, List.length_drop]; omega
  · simp only [List.length_append, List.length_drop]; omega

/-- what has been written of a block -/
def partL (l : List RecB) (k : Nat) : List UInt8 := numL l.length ++ recsL [] ((l.take k).map RecB.rec_)
theorem partL_next {l : List RecB} {k : Nat} (hk : k < l.length) : partL l (k + 1) = partL l k ++ recL (aheadB l k).data.toList l[k].rec_ := by
  unfold partL
  rw [List.take_succ_eq_append_getElem hk, List.map_append, List.map_cons, List.map_nil, recsL_snoc, ahead_last, List.append_assoc]

/-- records of a stream: their texts are small -/
def Small (l : List RecB) : Prop := ∀ r ∈ l, r.key.size ≤ 1000 ∧ r.value.size ≤ 1000

theorem partL_len {l : List RecB} (hs : Small l) (hl : l.length ≤ 1000) : ∀ k, k ≤ l.length → (partL l k).length ≤ 9 + k * 2027
  | 0, _ => by
    unfold partL
    have := numL_len 8 l.length (by omega)
    simpa [recsL] using this
  | k + 1, hk => by
    rw [partL_next (by omega), List.length_append]
    have ih := partL_len hs hl k (by omega)
    obtain ⟨h1, h2⟩ := hs l[k] (List.getElem_mem (by omega))
    have := recL_len (aheadB l k).data.toList l[k].rec_ (by simpa [RecB.rec_] using h1) (by simpa [RecB.rec_] using h2)
    omega

theorem ahead_small {l : List RecB} (hs : Small l) (k : Nat) : (aheadB l k).size ≤ 1000 := by
  unfold aheadB
  cases h : (l.take k).getLast? with
  | none => exact Nat.zero_le _
  | some x => exact (hs x ((List.take_sublist k l).subset (List.mem_of_getLast? h))).1

set_option maxRecDepth 100000 in
set_option maxHeartbeats 2000000 in
theorem block_any (wb o : Nat) (cs : Array Value) (t : TypeId) (sum count : Nat) (oa : Option Addr) (cap : Nat) (l : List RecB) (w : World) (hb : w.heap[wb]? = some (.cells cs t (0, 0))) (ho : cs[o]? = some (.int .u32 (sum : Nat))) (ho1 : cs[o + 1]? = some (.int .i64 (count : Nat))) (hs : sum < 4294967296) (hc : count < 1000000000000000)
    (hl : l.length ≤ 1000) (hr : RecIn w oa l) (hsm : Small l) (ht : TurnsAt w) :
    Calls Tryz.prog 37 #[.pointer (some ⟨wb, o, none⟩), .slice oa l.length cap] w fun e w' => e = .returned (.string (ofL (blockL (l.map RecB.rec_)))) ∧
      w'.heap[wb]? = some (.cells ((cs.setIfInBounds o (.int .u32 (ovL sum (blockL (l.map RecB.rec_)) : Nat))).setIfInBounds (o + 1) (.int .i64 ((count + l.length : Nat) : Int))) t (0, 0)) ∧ Keeps (· = wb) w w' := by
  have HF : Hid (∀ W, Keeps (fun _ => False) w W → W.heap[wb]? = some (.cells cs t (0, 0))) := fun W hW => (hW.block wb (Array.getElem?_eq_some_iff.1 hb).1 (fun h => h)).trans hb
  have HR := hid hr
  have HSM := hid hsm
  have HT := hid ht
  have HN := hid (fun W => number_any l.length W (by omega))
  have HP := hid (partL_len hsm hl)
  have HAS := hid (ahead_small hsm)
  have HL := hid hl
  have HE : Hid (blockL (l.map RecB.rec_) = partL l l.length ++ checkL (partL l l.length)) := by
    show _ = _
    unfold blockL blockB partL
    rw [List.take_length, List.length_map]
  have h0 : ofL (numL l.length) = ofL (partL l 0) := by unfold partL; simp [recsL]
  rw [h0] at HN
  have HO := hid (And.intro ho ho1)
  have HS := hid hs
  have HCT := hid hc
  have hlI : (l.length : Int) ≤ 1000 := by omega
  clear hb ht hr hsm h0 ho ho1 hl hs hc
  go_enter Tryz.func37, Tryz.ntmps37
  go_wp2_with fail
  refine (HN.out _).mono ?_
  rintro e w1 ⟨rfl, k1⟩
  have HK1 := hid k1
  clear k1 HN
  go_wp2_with fail
  go_loopw [5, 6, 14] (fun p a i wr => ∃ k : Nat, k ≤ l.length ∧ i = .int .i64 k ∧ p = .string (ofL (partL l k)) ∧ a = .string (aheadB l k) ∧ Keeps (fun _ => False) w wr) (fun _ _ i _ => l.length - (intOf i).toNat)
  case atStart => exact ⟨0, Nat.zero_le _, rfl, rfl, rfl, HK1.out⟩
  case round =>
    obtain ⟨k, hk, rfl, rfl, rfl, hkr⟩ := hrel
    have hps : (ofL (partL l k)).size ≤ 3000000 := by rw [ofL_size]; have := HP.out k hk; have := HL.out; omega
    by_cases hlt : k < l.length
    · obtain ⟨g, off, rfl, r0, r1, r2⟩ := HR.out.kept hkr k hlt
      obtain ⟨m1, m2⟩ := HSM.out l[k] (List.getElem_mem hlt)
      have HREC := hid (fun W => record_any l[k] (aheadB l k) W m1 (HAS.out k) m2)
      have hrs : (ofL (recL (aheadB l k).data.toList l[k].rec_)).size ≤ 2027 := by rw [ofL_size]; exact recL_len _ _ (by simpa [RecB.rec_] using m1) (by simpa [RecB.rec_] using m2)
      have HNX : Hid (ofL (partL l (k + 1)) = ofL (partL l k) ++ ofL (recL (aheadB l k).data.toList l[k].rec_)) := by show _ = _; rw [ofL_append, partL_next hlt]
      have HNA := hid (ahead_next hlt)
      unfold RecB.val at HREC
      generalize ofL (recL (aheadB l k).data.toList l[k].rec_) = rt at *
      generalize aheadB l k = ah at *
      generalize ofL (partL l k) = pt at *
      generalize l[k].key = rk at *
      generalize l[k].value = rv at *
      generalize l[k].gone = rg at *
      have HKR := hid hkr
      clear hkr m1 m2
      go_wp2_with fail
      refine (HREC.out _).mono ?_
      rintro e w2 ⟨rfl, k2⟩
      obtain ⟨q0, q1, q2, -⟩ := three_cells (box_kept k2 (fun h => h))
      have HK2 := hid ((HKR.out.al _).tr k2 (fun _ h => h))
      clear k2
      go_wp2
      exact ⟨⟨k + 1, by omega, by go_num, by rw [HNX.out], by rw [HNA.out], HK2.out⟩, by simp only [intOf]; omega⟩
    · have e : k = l.length := by omega
      subst e
      have HKR := hid hkr
      have HCK := hid (fun W (hW : Keeps (fun _ => False) w W) => checkOf_any (ofL (partL l l.length)) W (by unfold maxLen; omega) (HT.out.kept hW (fun h => h)))
      rw [ofL_list] at HCK
      have hcs : (ofL (checkL (partL l l.length))).size = 4 := by rw [ofL_size]; rfl
      have HBT : Hid (ofL (blockL (l.map RecB.rec_)) = ofL (partL l l.length) ++ ofL (checkL (partL l l.length))) := by show _ = _; rw [HE.out, ofL_append]
      have HOV := hid (fun W (hW : Keeps (fun _ => False) w W) => checkOver_any sum (ofL (blockL (l.map RecB.rec_))) W HS.out (by rw [HBT.out, ByteArray.size_append]; unfold maxLen; omega) (HT.out.kept hW (fun h => h)))
      rw [ofL_list, HBT.out] at HOV
      obtain ⟨sm, hsm⟩ : ∃ sm, sm = ovL sum (blockL (l.map RecB.rec_)) := ⟨_, rfl⟩
      rw [← hsm] at HOV
      have HSMM := hid hsm
      clear hsm
      generalize ofL (checkL (partL l l.length)) = ct at *
      generalize ofL (partL l l.length) = pt at *
      clear hkr
      go_wp2_with fail
      refine (HCK.out _ HKR.out).mono ?_
      rintro e w2 ⟨rfl, k2⟩
      have HK2 := hid (HKR.out.tr k2 (fun _ h => h))
      have b2 := HF.out _ HK2.out
      have x0 : w2.cell? ⟨wb, o, none⟩ = some (.int .u32 (sum : Nat)) := (cell_of_heap b2 o).trans HO.out.1
      have f0 : w2.frozen? ⟨wb, o, none⟩ = false := frozen_of_heap b2 o
      have b3 : (w2.setCell ⟨wb, o, none⟩ (.int .u32 (sm : Nat))).heap[wb]? = some (.cells (cs.setIfInBounds o (.int .u32 (sm : Nat))) t (0, 0)) := heap_setCell_same b2 _
      have x1 : (w2.setCell ⟨wb, o, none⟩ (.int .u32 (sm : Nat))).cell? ⟨wb, o + 1, none⟩ = some (.int .i64 (count : Nat)) := by
        rw [cell_of_heap b3, Array.getElem?_setIfInBounds, if_neg (by omega)]
        exact HO.out.2
      have f1 : (w2.setCell ⟨wb, o, none⟩ (.int .u32 (sm : Nat))).frozen? ⟨wb, o + 1, none⟩ = false := frozen_of_heap b3 _
      have HB3 := hid b3
      have hctI : (count : Int) < 1000000000000000 := by have := HCT.out; omega
      clear k2 b2 b3
      go_wp2_with fail
      refine (HOV.out _ HK2.out).mono ?_
      rintro e w2 ⟨rfl, rfl⟩
      go_wp2
      go_ret
      refine ⟨by rw [HBT.out]; rfl, ?_, ?_⟩
      · rw [← HSMM.out]
        have := heap_setCell_same (i := o + 1) HB3.out (.int .i64 ((count + l.length : Nat) : Int))
        simpa using this
      · exact ((HK2.out.mono (T := (· = wb)) (fun _ _ h => h.elim)).tr (Keeps.setCell _ _ _) (fun _ h => h)).tr (Keeps.setCell _ _ _) (fun _ h => h)

end Go.Proofs.YtkpaiaddikpdoaaGreatDoor

/- What is no stream: IsState, StatesFit, judge. -/
namespace Go.Proofs.YtkpaiaddikpdoaaGreatDoor
open Go.RowKit Go.Shelf

def stateB (n : Int) : Bool := decide (0 ≤ n) && decide (n ≤ 1000000000)
def fitB (full : Bool) (a b : Int) : Bool := stateB a && stateB b && (if full = true then decide (a = 0) else decide (a < b))

theorem isState_any (n : Int) (w : World) : Calls Tryz.prog 73 #[.int .i64 n] w fun e w' => e = .returned (.bool (stateB n)) ∧ w' = w := by
  by_cases h0 : 0 ≤ n
  · by_cases h1 : n ≤ 1000000000
    · have e : stateB n = true := by simp [stateB, h0, h1]
      rw [e]
      go_enter Tryz.func73, Tryz.ntmps73
      go_wp2
      go_ret
      exact ⟨rfl, rfl⟩
    · have e : stateB n = false := by simp [stateB, h1]
      rw [e]
      go_enter Tryz.func73, Tryz.ntmps73
      go_wp2
      go_ret
      exact ⟨rfl, rfl⟩
  · have e : stateB n = false := by simp [stateB, h0]
    rw [e]
    go_enter Tryz.func73, Tryz.ntmps73
    go_wp2
    go_ret
    exact ⟨rfl, rfl⟩

theorem statesFit_any (full : Bool) (a b : Int) (w : World) : Calls Tryz.prog 52 #[.bool full, .int .i64 a, .int .i64 b] w fun e w' => e = .returned (.bool (fitB full a b)) ∧ w' = w := by
  have HA := hid (fun W => isState_any a W)
  have HB := hid (fun W => isState_any b W)
  have HF : Hid (fitB full a b = (stateB a && stateB b && (if full = true then decide (a = 0) else decide (a < b)))) := hid rfl
  rw [HF.out]
  generalize stateB a = sa at *
  generalize stateB b = sb at *
  cases sa with
  | false =>
    simp only [Bool.false_and]
    go_enter Tryz.func52, Tryz.ntmps52
    go_wp2_with fail
    refine (HA.out _).mono ?_
    rintro e w' ⟨rfl, rfl⟩
    go_wp2
    go_ret
    exact ⟨rfl, rfl⟩
  | true =>
    cases sb with
    | false =>
      simp only [Bool.and_false, Bool.false_and]
      go_enter Tryz.func52, Tryz.ntmps52
      go_wp2_with fail
      refine (HA.out _).mono ?_
      rintro e w' ⟨rfl, rfl⟩
      go_wp2_with fail
      refine (HB.out _).mono ?_
      rintro e w' ⟨rfl, rfl⟩
      go_wp2
      go_ret
      exact ⟨rfl, rfl⟩
    | true =>
      simp only [Bool.true_and]
      cases full with
      | true =>
        simp only [if_true]
        go_enter Tryz.func52, Tryz.ntmps52
        go_wp2_with fail
        refine (HA.out _).mono ?_
        rintro e w' ⟨rfl, rfl⟩
        go_wp2_with fail
        refine (HB.out _).mono ?_
        rintro e w' ⟨rfl, rfl⟩
        go_wp2
        go_ret
        exact ⟨rfl, rfl⟩
      | false =>
        simp only [Bool.false_eq_true, if_false]
        go_enter Tryz.func52, Tryz.ntmps52
        go_wp2_with fail
        refine (HA.out _).mono ?_
        rintro e w' ⟨rfl, rfl⟩
        go_wp2_with fail
        refine (HB.out _).mono ?_
        rintro e w' ⟨rfl, rfl⟩
        go_wp2
        go_ret
        exact ⟨rfl, rfl⟩

end Go.Proofs.YtkpaiaddikpdoaaGreatDoor

/- judge. -/
namespace Go.Proofs.YtkpaiaddikpdoaaGreatDoor
open Go.RowKit Go.Shelf

theorem run_leq_str {P : Program} {t : TypeId} (x y : ByteArray) (w : World) : (binOp BinOp.leq t (.string x) (.string y)).run P w = .ok (.bool (!ltK y x)) w := by
  have h := gtr_str x y
  have e : (binOp BinOp.leq t (.string x) (.string y)).run P w = .ok (.bool (ltK x y || x.toList == y.toList)) w := by simp [binOp, Op.stringOp, ltK]
  rw [e, ← h]
  cases ltK x y <;> cases (x.toList == y.toList) <;> rfl

/-- is it a record of a stream, behind the key ahead? -/
def okRec (full : Bool) (ah : ByteArray) (r : RecB) : Bool := keyB r.key && valB r.value && ltK ah r.key && !(r.gone && (full || !r.value.toList.isEmpty))
def okTo (full : Bool) (l : List RecB) (k : Nat) : Bool := (List.range k).all fun j => match l[j]? with
  | some r => okRec full (aheadB l j) r
  | none => true
def judgeB (full : Bool) (a b : Int) (l : List RecB) : Bool := fitB full a b && decide (l.length ≤ 1000) && okTo full l l.length

theorem okTo_next {full : Bool} {l : List RecB} {k : Nat} (hk : k < l.length) : okTo full l (k + 1) = (okTo full l k && okRec full (aheadB l k) l[k]) := by
  unfold okTo
  rw [List.range_succ, List.all_append]
  simp [List.getElem?_eq_getElem hk]

theorem okTo_mono {full : Bool} {l : List RecB} {j k : Nat} (h : j ≤ k) (hk : okTo full l k = true) : okTo full l j = true := by
  unfold okTo at *
  rw [List.all_eq_true] at *
  intro x hx
  exact hk x (List.mem_range.2 (Nat.lt_of_lt_of_le (List.mem_range.1 hx) h))

theorem okTo_bad {full : Bool} {l : List RecB} {k : Nat} (hk : k < l.length) (h : okRec full (aheadB l k) l[k] = false) (a b : Int) : judgeB full a b l = false := by
  have : okTo full l l.length = false := by
    cases hq : okTo full l l.length with
    | false => rfl
    | true =>
      have h1 := okTo_mono (show k + 1 ≤ l.length by omega) hq
      rw [okTo_next hk, h, Bool.and_false] at h1
      cases h1
  unfold judgeB
  rw [this, Bool.and_false]

/-- an error lies in a variable -/
def ErrAt (w : World) (g : Nat) : Prop := ∃ t v, w.cell? ⟨g, 0, none⟩ = some (.iface t v)
theorem ErrAt.kept {w w' : World} {g : Nat} (h : ErrAt w g) (hk : Keeps (fun _ => False) w w') : ErrAt w' g := by
  obtain ⟨t, v, h⟩ := h
  exact ⟨t, v, hk.cell h (fun h => h)⟩

/-- it is one of judge's errors -/
def JErr (w : World) (t : TypeId) (v : Value) : Prop := ∃ g, (2 ≤ g ∧ g ≤ 6) ∧ w.cell? ⟨g, 0, none⟩ = some (.iface t v)

/-- what judge says -/
def JudgePost (ok : Bool) (w : World) (e : Ending) (w' : World) : Prop := (if ok = true then e = .returned .nilIface else ∃ t v, JErr w t v ∧ e = .returned (.iface t v)) ∧ Keeps (fun _ => False) w w'

theorem JudgePost.bad {ok : Bool} {w w' : World} {t : TypeId} {v : Value} (hg : JErr w t v) (h : ok = false) (hk : Keeps (fun _ => False) w w') : JudgePost ok w (.returned (.iface t v)) w' := by
  refine ⟨?_, hk⟩
  rw [h]
  exact ⟨t, v, hg, rfl⟩

theorem JudgePost.good {ok : Bool} {w w' : World} (h : ok = true) (hk : Keeps (fun _ => False) w w') : JudgePost ok w (.returned .nilIface) w' := by
  refine ⟨?_, hk⟩
  rw [h]
  rfl

set_option maxRecDepth 100000 in
set_option maxHeartbeats 2000000 in
theorem judge_any (full : Bool) (a b : Int) (oa : Option Addr) (cap : Nat) (l : List RecB) (w : World) (hr : RecIn w oa l) (hl : l.length ≤ maxLen) (hs : ∀ r ∈ l, r.key.size ≤ maxLen ∧ r.value.size ≤ maxLen) (he : ∀ g, 2 ≤ g → g ≤ 6 → ErrAt w g) :
    Calls Tryz.prog 33 #[.agg #[.bool full, .int .i64 a, .int .i64 b, .slice oa l.length cap]] w (JudgePost (judgeB full a b l) w) := by
  have HR := hid hr
  have HS := hid hs
  have HE := hid he
  have HF := hid (fun W => statesFit_any full a b W)
  have HJ : Hid (judgeB full a b l = (fitB full a b && decide (l.length ≤ 1000) && okTo full l l.length)) := hid rfl
  have HBAD := hid (fun k (hk : k < l.length) (h : okRec full (aheadB l k) l[k] = false) => okTo_bad hk h a b)
  generalize judgeB full a b l = jb at *
  obtain ⟨t2, v2, g2⟩ := he 2 (by omega) (by omega)
  obtain ⟨t3, v3, g3⟩ := he 3 (by omega) (by omega)
  have J2 : Hid (JErr w t2 v2) := ⟨2, by omega, g2⟩
  have J3 : Hid (JErr w t3 v3) := ⟨3, by omega, g3⟩
  unfold maxLen at hl
  clear hr hs he
  cases hfit : fitB full a b with
  | false =>
    rw [hfit] at HF HJ
    have HG2 := (Keeps.alloc (fun _ => False) w (.cells #[.bool full, .int .i64 a, .int .i64 b, .slice oa l.length cap] 34)).cell g2 (fun h => h)
    go_enter Tryz.func33, Tryz.ntmps33
    go_wp2_with fail
    refine (HF.out _).mono ?_
    rintro e w' ⟨rfl, rfl⟩
    go_wp2
    go_ret
    exact JudgePost.bad J2.out (by rw [HJ.out]; rfl) ((Keeps.refl _ _).al _)
  | true =>
    rw [hfit] at HF HJ
    by_cases h1000 : l.length ≤ 1000
    · have h1000I : (l.length : Int) ≤ 1000 := by omega
      have HG : Hid (jb = okTo full l l.length) := by show _ = _; rw [HJ.out, decide_eq_true h1000]; rfl
      clear HJ h1000 g2 g3 hfit
      go_enter Tryz.func33, Tryz.ntmps33
      go_wp2_with fail
      refine (HF.out _).mono ?_
      rintro e w' ⟨rfl, rfl⟩
      go_wp2_with fail
      go_loopw [3, 23] (fun ah i wr => ∃ k : Nat, k ≤ l.length ∧ ah = .string (aheadB l k) ∧ i = .int .i64 k ∧ okTo full l k = true ∧ Keeps (fun _ => False) (w.alloc (.cells #[.bool full, .int .i64 a, .int .i64 b, .slice oa l.length cap] 34)) wr) (fun _ i _ => l.length - (intOf i).toNat)
      case atStart => exact ⟨0, Nat.zero_le _, rfl, rfl, rfl, Keeps.refl _ _⟩
      case round =>
        obtain ⟨k, hk, rfl, rfl, hok, hkr⟩ := hrel
        have hkw : Keeps (fun _ => False) w wr := ((Keeps.refl (fun _ => False) w).al _).tr hkr (fun _ h => h)
        have xb := cell_of_heap (box_kept hkr (fun h => h)) 0
        simp at xb
        by_cases hlt : k < l.length
        · obtain ⟨g, off, rfl, r0, r1, r2⟩ := HR.out.kept hkw k hlt
          obtain ⟨m1, m2⟩ := HS.out l[k] (List.getElem_mem hlt)
          obtain ⟨t4, v4, y4⟩ := HE.out 4 (by omega) (by omega)
          have J4 : Hid (JErr w t4 v4) := ⟨4, by omega, y4⟩
          have g4 := hkw.cell y4 (fun h => h)
          clear y4
          obtain ⟨t5, v5, y5⟩ := HE.out 5 (by omega) (by omega)
          have J5 : Hid (JErr w t5 v5) := ⟨5, by omega, y5⟩
          have g5 := hkw.cell y5 (fun h => h)
          clear y5
          obtain ⟨t6, v6, y6⟩ := HE.out 6 (by omega) (by omega)
          have J6 : Hid (JErr w t6 v6) := ⟨6, by omega, y6⟩
          have g6 := hkw.cell y6 (fun h => h)
          clear y6
          have HKY := hid (fun W => isKey_any l[k].key W m1)
          have HVL := hid (fun W => isValue_any l[k].value W m2)
          have HOK : Hid (okRec full (aheadB l k) l[k] = (keyB l[k].key && valB l[k].value && ltK (aheadB l k) l[k].key && !(l[k].gone && (full || !l[k].value.toList.isEmpty)))) := hid rfl
          have HBK := hid (HBAD.out k hlt)
          have HNX : Hid (okRec full (aheadB l k) l[k] = true → okTo full l (k + 1) = true) := fun h => by rw [okTo_next hlt, hok, h]; rfl
          have HNA := hid (ahead_next hlt)
          have hle : ∀ W, (binOp BinOp.leq 9 (.string l[k].key) (.string (aheadB l k))).run Tryz.prog W = .ok (.bool (!ltK (aheadB l k) l[k].key)) W := fun W => run_leq_str _ _ _
          generalize okRec full (aheadB l k) l[k] = okr at *
          generalize aheadB l k = ah at *
          generalize l[k].key = rk at *
          generalize l[k].value = rv at *
          generalize l[k].gone = rg at *
          have HKR := hid hkr
          have HKW := hid hkw
          clear hkr hkw m1 m2 hok
          generalize keyB rk = b1 at *
          generalize valB rv = b2 at *
          generalize ltK ah rk = b3 at *
          have al := Keeps.alloc (fun _ => False) wr (.cells #[.string rk, .string rv, .bool rg] 31)
          have p4 := al.cell g4 (fun h => h)
          have p5 := al.cell g5 (fun h => h)
          have p6 := al.cell g6 (fun h => h)
          have pb := al.cell xb (fun h => h)
          clear al g4 g5 g6 xb
          cases b1 with
          | false =>
            go_wp2_with (first | (go_at_call 53; go_must (refine (HKY.out _).mono ?_; rintro e w2 ⟨rfl, rfl⟩)) | (go_at_call 54; go_must (refine (HVL.out _).mono ?_; rintro e w2 ⟨rfl, rfl⟩)))
            go_ret
            exact JudgePost.bad (by first | exact J4.out | exact J5.out | exact J6.out) (HBK.out (by rw [HOK.out]; rfl)) (HKW.out.al _)
          | true =>
            cases b2 with
            | false =>
              go_wp2_with (first | (go_at_call 53; go_must (refine (HKY.out _).mono ?_; rintro e w2 ⟨rfl, rfl⟩)) | (go_at_call 54; go_must (refine (HVL.out _).mono ?_; rintro e w2 ⟨rfl, rfl⟩)))
              go_ret
              exact JudgePost.bad (by first | exact J4.out | exact J5.out | exact J6.out) (HBK.out (by rw [HOK.out]; rfl)) (HKW.out.al _)
            | true =>
              cases b3 with
              | false =>
                go_wp2_with (first | (go_at_call 53; go_must (refine (HKY.out _).mono ?_; rintro e w2 ⟨rfl, rfl⟩)) | (go_at_call 54; go_must (refine (HVL.out _).mono ?_; rintro e w2 ⟨rfl, rfl⟩)))
                go_ret
                exact JudgePost.bad (by first | exact J4.out | exact J5.out | exact J6.out) (HBK.out (by rw [HOK.out]; rfl)) (HKW.out.al _)
              | true =>
                cases rg with
                | false =>
                  go_wp2_with (first | (go_at_call 53; go_must (refine (HKY.out _).mono ?_; rintro e w2 ⟨rfl, rfl⟩)) | (go_at_call 54; go_must (refine (HVL.out _).mono ?_; rintro e w2 ⟨rfl, rfl⟩)))
                  exact ⟨⟨k + 1, by omega, by rw [HNA.out], by go_num, HNX.out (by rw [HOK.out]; rfl), HKR.out.al _⟩, by simp only [intOf]; omega⟩
                | true =>
                  cases full with
                  | true =>
                    go_wp2_with (first | (go_at_call 53; go_must (refine (HKY.out _).mono ?_; rintro e w2 ⟨rfl, rfl⟩)) | (go_at_call 54; go_must (refine (HVL.out _).mono ?_; rintro e w2 ⟨rfl, rfl⟩)))
                    go_ret
                    exact JudgePost.bad (by first | exact J4.out | exact J5.out | exact J6.out) (HBK.out (by rw [HOK.out]; rfl)) (HKW.out.al _)
                  | false =>
                    cases hb4 : rv.toList.isEmpty with
                    | true =>
                      go_wp2_with (first | (go_at_call 53; go_must (refine (HKY.out _).mono ?_; rintro e w2 ⟨rfl, rfl⟩)) | (go_at_call 54; go_must (refine (HVL.out _).mono ?_; rintro e w2 ⟨rfl, rfl⟩)))
                      exact ⟨⟨k + 1, by omega, by rw [HNA.out], by go_num, HNX.out (by rw [HOK.out, hb4]; rfl), HKR.out.al _⟩, by simp only [intOf]; omega⟩
                    | false =>
                      go_wp2_with (first | (go_at_call 53; go_must (refine (HKY.out _).mono ?_; rintro e w2 ⟨rfl, rfl⟩)) | (go_at_call 54; go_must (refine (HVL.out _).mono ?_; rintro e w2 ⟨rfl, rfl⟩)))
                      go_ret
                      exact JudgePost.bad (by first | exact J4.out | exact J5.out | exact J6.out) (HBK.out (by rw [HOK.out, hb4]; rfl)) (HKW.out.al _)
        · have e : k = l.length := by omega
          subst e
          have HB : Hid (jb = true) := by show _ = _; rw [HG.out]; exact hok
          have HKW := hid hkw
          clear hkr hok hkw
          go_wp2
          go_ret
          exact JudgePost.good HB.out HKW.out
    · have HG3 := (Keeps.alloc (fun _ => False) w (.cells #[.bool full, .int .i64 a, .int .i64 b, .slice oa l.length cap] 34)).cell g3 (fun h => h)
      have hgt : (1000 : Int) < l.length := by omega
      have HB : Hid (jb = false) := by show _ = _; rw [HJ.out, decide_eq_false h1000]; rfl
      clear h1000
      go_enter Tryz.func33, Tryz.ntmps33
      go_wp2_with fail
      refine (HF.out _).mono ?_
      rintro e w' ⟨rfl, rfl⟩
      go_wp2
      go_ret
      exact JudgePost.bad J3.out HB.out ((Keeps.refl _ _).al _)

end Go.Proofs.YtkpaiaddikpdoaaGreatDoor
