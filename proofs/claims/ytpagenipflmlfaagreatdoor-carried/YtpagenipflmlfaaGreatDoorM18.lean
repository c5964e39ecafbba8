import Derived.Test.YtpagenipflmlfaaGreatDoorM17
import Derived.LaidEql
import Derived.Stop.Asserts
import Derived.RowKitTokens

/- Read: a text whose check is right. -/

namespace Go.Proofs.YtpagenipflmlfaaGreatDoor

open Go.RowKit Go.Shelf

theorem flat_three : ∀ (l : List RecB) (k r : Nat) (hk : k < l.length), r < 3 → (recCs l)[k * 3 + r]? = (l[k].cells)[r]?
  | [], k, r, hk, _ => absurd hk (by simp)
  | x :: l, 0, r, _, hr => by
    show (x.cells ++ recCs l)[0 * 3 + r]? = _
    rw [List.getElem?_append_left (by rw [RecB.len]; omega)]
    simp
  | x :: l, k + 1, r, hk, hr => by
    show (x.cells ++ recCs l)[(k + 1) * 3 + r]? = _
    rw [List.getElem?_append_right (by rw [RecB.len]; omega), RecB.len, show (k + 1) * 3 + r - 3 = k * 3 + r by omega]
    exact flat_three l k r (by simpa using hk) hr

theorem RecIn.ofRow {w : World} {oa : Option Addr} {cap : Nat} {l : List RecB} (h : Row w 147 3 (.slice oa l.length cap) l.length (recCs l)) : RecIn w oa l := fun i hi => by
  obtain ⟨n, hn⟩ : ∃ n, l.length = n + 1 := ⟨l.length - 1, by omega⟩
  have h' := h
  rw [hn] at h'
  obtain ⟨g, cap', e⟩ := h'.succ
  have e1 : oa = some ⟨g, 0, none⟩ := by injection e
  subst e1
  refine ⟨g, 0, rfl, ?_, ?_, ?_⟩
  · rw [Nat.zero_add]
    refine (h.cellAt (i * 3) (by omega)).trans ?_
    have := flat_three l i 0 hi (by omega)
    rw [Nat.add_zero] at this
    rw [this]
    rfl
  · rw [Nat.zero_add]
    refine (h.cellAt (i * 3 + 1) (by omega)).trans ?_
    rw [flat_three l i 1 hi (by omega)]
    rfl
  · rw [Nat.zero_add]
    refine (h.cellAt (i * 3 + 2) (by omega)).trans ?_
    rw [flat_three l i 2 hi (by omega)]
    rfl

def coreO (t : List UInt8) (x : Rd Str) : RdO := match x with
  | .inl left => .bad (t.length - 4 - left)
  | .inr (s, _) => if judgeS s = true ∧ streamL s = t then .ok s else .bad 0

theorem size16 {w : World} (he : ErrsAt w) : 16 ≤ w.heap.size := by
  obtain ⟨t, u, h⟩ := he 15 (by unfold NoSum; omega)
  exact World.block_lt_of_cell? _ _ h

/-- records that were read are small -/
theorem recR_small {ahead l l' : List UInt8} {r : Rec} (ha : ahead.length ≤ 10) (h : recR ahead l = .ok r l') : r.key.length ≤ 10 ∧ r.value.length ≤ 40 := by
  have hp : Place (ofL l) l := place_rest (text := ofL l) (at_ := 0) (Nat.zero_le _)
  obtain ⟨-, h1, h2, -⟩ := recR_fits ha hp h
  exact ⟨h1, h2⟩

theorem recsR_small : ∀ (n : Nat) (ahead l l' : List UInt8) (x : List Rec), ahead.length ≤ 10 → recsR n ahead l = .ok x l' → ∀ r ∈ x, r.key.length ≤ 10 ∧ r.value.length ≤ 40
  | 0, ahead, l, l', x, _, h => by
    rw [recsR] at h
    cases h
    simp
  | n + 1, ahead, l, l', x, ha, h => by
    rw [recsR] at h
    obtain ⟨r, l1, h1, h⟩ := bind_eq_ok h
    obtain ⟨y, l2, h2, h⟩ := bind_eq_ok h
    cases h
    have hr := recR_small ha h1
    intro r' hr'
    rcases List.mem_cons.1 hr' with rfl | hm
    · exact hr
    · exact recsR_small n _ _ _ _ hr.1 h2 r' hm

theorem blockR_small {l l' : List UInt8} {x : List Rec} (h : blockR l = .ok x l') : ∀ r ∈ x, r.key.length ≤ 10 ∧ r.value.length ≤ 40 := by
  unfold blockR at h
  obtain ⟨n, l1, h1, h⟩ := bind_eq_ok h
  by_cases hn : n = 0
  · rw [if_pos hn] at h
    cases h
    simp
  · rw [if_neg hn] at h
    obtain ⟨y, l2, h2, h⟩ := bind_eq_ok h
    unfold endR at h
    obtain ⟨z, l3, h3, h⟩ := bind_eq_ok h
    split at h
    · cases h
      exact recsR_small n [] _ _ _ (by simp) h2
    · cases h

theorem blocksR_small : ∀ (f : Nat) (acc : List Rec) (l l' : List UInt8) (x : List Rec), (∀ r ∈ acc, r.key.length ≤ 10 ∧ r.value.length ≤ 40) → blocksR f acc l = .ok x l' → ∀ r ∈ x, r.key.length ≤ 10 ∧ r.value.length ≤ 40
  | 0, acc, l, l', x, ha, h => by
    rw [blocksR] at h
    cases h
    exact ha
  | f + 1, acc, l, l', x, ha, h => by
    rw [blocksR] at h
    obtain ⟨b, l1, h1, h⟩ := bind_eq_ok h
    have hb := blockR_small h1
    by_cases he : b = []
    · subst he
      simp at h
      obtain ⟨rfl, -⟩ := h
      exact ha
    · have h' : blocksR f (acc ++ b) l1 = .ok x l' := by simpa [he] using h
      exact blocksR_small f _ _ _ _ (fun r hr => (List.mem_append.1 hr).elim (ha r) (hb r)) h'

theorem coreR_small {l l' : List UInt8} {s : Str} (h : coreR l = .ok s l') : ∀ r ∈ s.recs, r.key.length ≤ 10 ∧ r.value.length ≤ 40 := by
  unfold coreR at h
  obtain ⟨k, l1, -, h⟩ := bind_eq_ok h
  obtain ⟨a, l2, -, h⟩ := bind_eq_ok h
  obtain ⟨b, l3, -, h⟩ := bind_eq_ok h
  obtain ⟨x, l4, h4, h⟩ := bind_eq_ok h
  obtain ⟨_, l5, -, h⟩ := bind_eq_ok h
  cases h
  exact blocksR_small _ [] _ _ _ (by simp) h4

/-- an empty stream lies there -/
def ResZ (w : World) (q : Nat) : Prop := w.heap[q]? = some (.cells #[.bool false, .int .i64 0, .int .i64 0, .slice none 0 0] 84 (0, 0))

theorem ResZ.facts {w : World} {q : Nat} (h : ResZ w q) : w.cell? ⟨q, 0, none⟩ = some (.bool false) ∧ w.cell? ⟨q, 1, none⟩ = some (.int .i64 0) ∧ w.cell? ⟨q, 2, none⟩ = some (.int .i64 0) ∧ w.cell? ⟨q, 3, none⟩ = some (.slice none 0 0) ∧ w.frozen? ⟨q, 0, none⟩ = false ∧ w.frozen? ⟨q, 1, none⟩ = false ∧ w.frozen? ⟨q, 2, none⟩ = false ∧ w.frozen? ⟨q, 3, none⟩ = false ∧ w.setCell ⟨q, 0, none⟩ (.bool false) = w ∧ w.setCell ⟨q, 1, none⟩ (.int .i64 0) = w ∧ w.setCell ⟨q, 2, none⟩ (.int .i64 0) = w ∧ w.setCell ⟨q, 3, none⟩ (.slice none 0 0) = w :=
  ⟨cell_of_heap h 0, cell_of_heap h 1, cell_of_heap h 2, cell_of_heap h 3, frozen_of_heap h 0, frozen_of_heap h 1, frozen_of_heap h 2, frozen_of_heap h 3, set_same h rfl, set_same h rfl, set_same h rfl, set_same h rfl⟩

theorem ResZ.kept {S : Nat → Prop} {w w' : World} {q : Nat} (h : ResZ w q) (hk : Keeps S w w') (hS : ¬ S q) : ResZ w' q := (hk.block q (Array.getElem?_eq_some_iff.1 h).1 hS).trans h

theorem Flt.back {w w3 w4 wz : World} {v : Value} {p : Nat} (hf : Flt w3 w4 v p) (he : ErrsAt w) (k : Keeps (fun _ => False) w w3) (kz : Keeps (fun _ => False) w4 wz) : Flt w wz v p := by
  obtain ⟨b, t, u, g, h1, h2, h3, h4, h5⟩ := hf
  refine ⟨b, t, u, g, h1, Nat.le_trans k.size h2, (kz.block b (Array.getElem?_eq_some_iff.1 h3).1 (fun h => h)).trans h3, h4, ?_⟩
  obtain ⟨t', u', h'⟩ := he g h4
  have := k.cell h' (fun h => h)
  rw [this] at h5
  rw [h']
  exact h5

theorem take_all {l : List Rec} (h : ((l.map recB).take 1001).length ≤ 1000) : (l.map recB).take 1001 = l.map recB := by
  refine List.take_of_length_le ?_
  rw [List.length_take] at h
  omega

theorem recs_back (l : List Rec) : (l.map recB).map RecB.rec_ = l := by
  rw [List.map_map]
  exact List.map_id' l

set_option maxRecDepth 100000 in
set_option maxHeartbeats 4000000 in
theorem read_core (text : ByteArray) (w : World) (h4 : 4 ≤ text.size) (hts : text.size ≤ 10000000000) (he : ErrsAt w) (ht : TurnsAt w) (heq : text.data.toList.drop (text.data.toList.length - 4) = checkL (text.data.toList.take (text.data.toList.length - 4))) :
    Calls Tryz.prog 71 #[.string text] w (ReadPost (coreO text.data.toList (coreR (text.data.toList.take (text.data.toList.length - 4)))) w) := by
  have h16 := size16 he
  have hlen : text.data.toList.length = text.size := rfl
  rw [hlen] at heq ⊢
  obtain ⟨n, hn⟩ : ∃ n : Nat, text.size = n + 4 := ⟨text.size - 4, by omega⟩
  have hsub : (text.size : Int) - 4 = (n : Int) := by omega
  rw [show text.size - 4 = n by omega] at heq ⊢
  have hck : ∀ W, Keeps (fun _ => False) w W → Calls Tryz.prog 106 #[.string (text.extract 0 n)] W fun e w' => e = .returned (.string (text.extract n text.size)) ∧ Keeps (fun _ => False) W w' := fun W hW => by
    have := checkOf_any (text.extract 0 n) W (by rw [ByteArray.size_extract]; unfold maxLen; omega) (ht.kept hW (fun h => h))
    rw [extract_take text n, ← heq, ← extract_drop text n] at this
    exact this
  have HC := hid hck
  have hnI : (n : Int) ≤ 10000000000 := by omega
  have hnS : (n : Int) ≤ text.size := by omega
  have HN := hid hn
  have HE := hid he
  have HT := hid ht
  have H16 := hid h16
  have HX : Hid ((text.extract 0 n).data.toList = text.data.toList.take n) := extract_take text n
  have HXS : Hid ((text.extract 0 n).size = n) := by show _ = _; rw [ByteArray.size_extract]; omega
  obtain ⟨res, hres⟩ : ∃ res, res = coreO text.data.toList (coreR (text.data.toList.take n)) := ⟨_, rfl⟩
  rw [← hres]
  have HR := hid hres
  clear hck heq he ht hts h4 hlen hn h16 hres
  go_enter Tryz.func71, Tryz.ntmps71
  go_wp2
  go_region_held3 (fun _ => True) (go_keep) (first | (go_at_call 106; refine (HC.out _ (((Keeps.refl (fun _ => False) w).al _).dr)).mono ?_; rintro e w2 ⟨rfl, k2⟩; have hk2 := ((((Keeps.refl (fun _ => False) w).al _).dr).tr k2 (fun _ h => h)); have D2 := hid ((k2.block w.heap.size (by simp) (fun h => h)).trans (heap_new w _)); have HZ : Hid (w.heap.size < w2.heap.size) := (by have := k2.size; simp at this; show _ < _; omega); have HK2 := hid hk2; clear k2 hk2))
  have HRS : Hid (Calls Tryz.prog 107 #[.pointer (some ⟨w2.heap.size, 0, none⟩)] (w2.alloc (.cells #[.string (text.extract 0 n), .int .i64 0, .int .i64 0, .slice none 0 0] 177)) (StPost w2.heap.size w2.heap.size (text.extract 0 n) (coreR (text.data.toList.take n)) (w2.alloc (.cells #[.string (text.extract 0 n), .int .i64 0, .int .i64 0, .slice none 0 0] 177)))) := by
    have hz := HZ.out
    have h16 := H16.out
    have hxs := HXS.out
    have hL : (text.extract 0 n).data.toList.length = (text.extract 0 n).size := rfl
    have := rstream_any w2.heap.size w2.heap.size (text.extract 0 n) (w2.alloc (.cells #[.string (text.extract 0 n), .int .i64 0, .int .i64 0, .slice none 0 0] 177)) ⟨none, 0, ⟨place_rest (text := text.extract 0 n) (at_ := 0) (Nat.zero_le _), by unfold RdAt; rw [hL, Nat.sub_self]; exact heap_new w2 _, HE.out.kept (HK2.out.al _) (fun _ _ h => h)⟩, Row.nil _ _ _, fun g h => by cases h⟩ (by omega) (by simp) (by omega) (by omega) (HT.out.kept (HK2.out.al _) (fun h => h))
    rw [HX.out] at this
    exact this
  have HD3 : Hid (ResZ (w2.alloc (.cells #[.string (text.extract 0 n), .int .i64 0, .int .i64 0, .slice none 0 0] 177)) w.heap.size) := ResZ.kept D2.out ((Keeps.refl (fun _ => False) w2).al _) (fun h => h)
  have HK3 : Hid (Keeps (fun _ => False) w (w2.alloc (.cells #[.string (text.extract 0 n), .int .i64 0, .int .i64 0, .slice none 0 0] 177))) := HK2.out.al _
  have HZ3 : Hid (∀ k w4, k < w2.heap.size → ¬ RdrS w2.heap.size w2.heap.size w4 k) := fun k w4 hk e => by
    rcases e with e | ⟨e, -⟩
    · have e' : k = w2.heap.size := e
      omega
    · have e' : w2.heap.size ≤ k := e
      omega
  go_wp2_with fail
  refine HRS.out.mono ?_
  clear HRS
  rcases hx : coreR (text.data.toList.take n) with left | ⟨st, rest⟩
  · rintro e w4 ⟨⟨v, rfl, b, t, u, g, rfl, hf⟩, k4⟩
    have er : res = .bad (text.data.toList.length - 4 - left) := by rw [HR.out, hx]; rfl
    subst er
    clear HR
    have hd4 := HD3.out.kept k4 (HZ3.out _ _ HZ.out)
    have hd5 := hd4.kept ((Keeps.refl (fun _ => False) w4).al (.cells #[.bool false, .int .i64 0, .int .i64 0, .slice none 0 0] 84)) (fun h => h)
    obtain ⟨a0, a1, a2, a3, b0, b1, b2, b3, s0, s1, s2, s3⟩ := hd5.facts
    have HF : Hid (Flt (w2.alloc (.cells #[.string (text.extract 0 n), .int .i64 0, .int .i64 0, .slice none 0 0] 177)) w4 (.iface 173 (.pointer (some ⟨b, 0, none⟩))) ((text.extract 0 n).size - left)) := ⟨b, t, u, g, rfl, hf⟩
    have HK4 : Hid (Keeps (fun _ => False) w w4) := HK3.out.trans k4 (fun i hi e => absurd e (HZ3.out i _ (Nat.lt_trans hi HZ.out)))
    clear hf k4 hd4 hd5
    unfold strZ
    go_wp2
    refine bodyPost_ret (v := .tuple #[strZ, .iface 173 (.pointer (some ⟨b, 0, none⟩))]) ?_ rfl ?_
    · unfold strZ
      rw [results_cell_tmp rfl]
      go_simp
    · refine ⟨⟨_, rfl, ?_⟩, HK4.out.al _⟩
      have h1 := HF.out.back HE.out HK3.out ((Keeps.refl (fun _ => False) w4).al (.cells #[.bool false, .int .i64 0, .int .i64 0, .slice none 0 0] 84))
      rw [HXS.out] at h1
      have h2 := HN.out
      rw [show text.data.toList.length - 4 - left = n - left by show text.size - 4 - left = _; omega]
      exact h1
  · rintro e w4 ⟨oa, cap, rfl, row4, k4, own4⟩
    have hsm := coreR_small hx
    have HRO : Hid (res = coreO text.data.toList (.ok st rest)) := by show _ = _; rw [HR.out, hx]
    clear HR
    have HSM : Hid (∀ r ∈ (st.recs.map recB).take 1001, r.key.size ≤ maxLen ∧ r.value.size ≤ maxLen) := fun r hr => by
      obtain ⟨r', hr', rfl⟩ := List.mem_map.1 (List.mem_of_mem_take hr)
      obtain ⟨h1, h2⟩ := hsm r' hr'
      have e1 : (recB r').key.size = r'.key.length := ofL_size _
      have e2 : (recB r').value.size = r'.value.length := ofL_size _
      unfold maxLen
      omega
    have HD4 := hid (HD3.out.kept k4 (HZ3.out _ _ HZ.out))
    have HK4 : Hid (Keeps (fun _ => False) w w4) := HK3.out.trans k4 (fun i hi e => absurd e (HZ3.out i _ (Nat.lt_trans hi HZ.out)))
    have HRW := hid row4
    have HOW : Hid (∀ g, (Value.slice oa 0 cap).ownBlock = some g → w.heap.size ≤ g) := fun g hg => Nat.le_trans (Nat.le_of_lt HZ.out) (own4 g ((own_len oa _ 0 cap).trans hg))
    have HTA : Hid (((st.recs.map recB).take 1001).length ≤ 1000 → (st.recs.map recB).take 1001 = st.recs.map recB) := fun h => take_all h
    have HLB : Hid (((st.recs.map recB).take 1001).length ≤ 1001) := List.length_take_le _ _
    clear hsm row4 k4 hx own4
    generalize hl : (st.recs.map recB).take 1001 = l at *
    obtain ⟨w5, hw5⟩ : ∃ w5, w5 = w4.alloc (.cells #[.bool st.full, .int .i64 (st.a : Nat), .int .i64 (st.b : Nat), .slice oa l.length cap] 84) := ⟨_, rfl⟩
    have HW5 := hid hw5
    have k5 : Keeps (fun _ => False) w4 w5 := by rw [hw5]; exact (Keeps.refl _ _).al _
    have HD5 := hid (HD4.out.kept k5 (fun h => h))
    have HK5 := hid (HK4.out.tr k5 (fun _ h => h))
    have HR5 := hid (HRW.out.kept k5 (fun _ _ h => h))
    clear hw5 k5 HRW HD4 HK4
    have HRC : Hid (l.length ≤ cap ∧ cap ≤ maxLen) := by
      rcases HR5.out.2 with ⟨e, e'⟩ | ⟨g, c', cur, e, -, h1, h2, -⟩
      · injection e with e1 e2 e3
        exact ⟨by omega, by unfold maxLen; omega⟩
      · injection e with e1 e2 e3
        subst e3
        exact ⟨h1, h2⟩
    have HJE : Hid (∀ g, 3 ≤ g → g ≤ 7 → ErrAt w5 g) := fun g h1 h2 => (HE.out.kept HK5.out (fun _ _ h => h)) g (by unfold NoSum; omega)
    have HZ5 : Hid (w.heap.size < w5.heap.size) := (Array.getElem?_eq_some_iff.1 HD5.out).1
    cases hj : judgeB st.full st.a st.b l with
    | false =>
      have HWR := hid (write_bad st.full st.a st.b oa cap l w5 (RecIn.ofRow HR5.out) (by have := HLB.out; unfold maxLen; omega) HSM.out HJE.out hj)
      have er : res = .bad 0 := by
        rw [HRO.out]
        show (if _ then _ else _) = _
        refine if_neg (fun h => ?_)
        have h1 := h.1
        unfold judgeS at h1
        have h2 := judge_facts h1
        rw [← HTA.out (by rw [← hl, List.length_take]; have := h2.2.2.1; omega), hj] at h1
        cases h1
      subst er
      clear hl HTA hj HSM HRO
      go_wp2_with fail
      rw [← HW5.out]
      refine HWR.out.mono ?_
      rintro e w6 ⟨⟨t, v, hv, rfl⟩, k6⟩
      have hd6 := HD5.out.kept k6 (fun h => h)
      have hd7 := hd6.kept ((Keeps.refl (fun _ => False) w6).al (.cells #[.int .i64 0, .iface t v] 175)) (fun h => h)
      obtain ⟨a0, a1, a2, a3, b0, b1, b2, b3, s0, s1, s2, s3⟩ := hd7.facts
      have HV := hid hv
      have HK6 := hid (HK5.out.tr k6 (fun _ h => h))
      clear hv k6 hd6 hd7 HWR
      go_wp2
      refine bodyPost_ret (v := .tuple #[strZ, .iface 173 (.pointer (some ⟨w6.heap.size, 0, none⟩))]) ?_ rfl ?_
      · unfold strZ
        rw [results_cell_tmp rfl]
        go_simp
      · obtain ⟨g, hg, hc⟩ := HV.out
        have hn : NoSum g := (by unfold NoSum; have := hg.1; have := hg.2; omega)
        refine ⟨⟨_, rfl, w6.heap.size, t, v, g, rfl, HK6.out.size, heap_new w6 _, hn, ?_⟩, HK6.out.al _⟩
        obtain ⟨t', u', h'⟩ := HE.out g hn
        have := HK5.out.cell h' (fun h => h)
        rw [this] at hc
        rw [h']
        exact hc
    | true =>
      have hjf := judge_facts hj
      have hll := HTA.out hjf.2.2.1
      have HST : Hid (streamL ⟨st.full, st.a, st.b, l.map RecB.rec_⟩ = streamL st) := by show _ = _; rw [hll, recs_back]
      have HWR := hid (write_good st.full st.a st.b oa cap l w5 (RecIn.ofRow HR5.out) HRC.out.1 HRC.out.2 HJE.out (HT.out.kept HK5.out (fun h => h)) hj)
      rw [HST.out] at HWR
      by_cases hq : streamL st = text.data.toList
      · have er : res = .ok st := by
          rw [HRO.out]
          show (if _ then _ else _) = _
          refine if_pos ⟨?_, hq⟩
          unfold judgeS
          rw [← hll]
          exact hj
        have HLL : Hid (l.length = st.recs.length ∧ st.recs.map recB = l) := ⟨by rw [hll, List.length_map], hll.symm⟩
        subst er
        have HWQ : Hid (ofL (streamL st) = text) := by show _ = _; rw [hq, ofL_self]
        clear hl hll hjf HTA hj HSM HRO HST hq HLB
        go_wp2_with fail
        rw [← HW5.out]
        refine HWR.out.mono ?_
        rintro e w6 ⟨e1, k6⟩
        have e2 : e = .returned (.tuple #[.string text, .nilIface]) := by
          have e3 : e = .returned (.tuple #[.string (ofL (streamL st)), .nilIface]) := e1
          rw [e3, HWQ.out]
        subst e2
        have hd6 := HD5.out.kept k6 (fun h => h)
        obtain ⟨a0, a1, a2, a3, b0, b1, b2, b3, -, -, -, -⟩ := hd6.facts
        have hx6 : w6.heap[w4.heap.size]? = some (.cells #[.bool st.full, .int .i64 (st.a : Nat), .int .i64 (st.b : Nat), .slice oa l.length cap] 84 (0, 0)) := (k6.block _ (by rw [HW5.out]; simp) (fun h => h)).trans (by rw [HW5.out]; exact heap_new w4 _)
        have x0 := cell_of_heap hx6 0
        have x1 := cell_of_heap hx6 1
        have x2 := cell_of_heap hx6 2
        have x3 := cell_of_heap hx6 3
        simp at x0 x1 x2 x3
        have HR6 := hid (HR5.out.kept k6 (fun _ _ h => h))
        have HD6 := hid hd6
        have HK6 := hid (HK5.out.tr k6 (fun _ h => h))
        clear e1 k6 hd6 hx6 HWR
        generalize hlen : l.length = len at *
        go_wp2
        refine bodyPost_ret (v := .tuple #[.agg #[.bool st.full, .int .i64 (st.a : Nat), .int .i64 (st.b : Nat), .slice oa len cap], .nilIface]) ?_ rfl ?_
        · rw [results_cell_tmp rfl]
          go_simp
        · refine ⟨⟨oa, cap, ?_, ?_, fun g hg => HOW.out g ((own_len oa 0 _ cap).trans hg)⟩, HK6.out.trans (four_set w6 w.heap.size _ _ _ _) (fun k hk e => by have e' : k = w.heap.size := e; omega)⟩
          · rw [← HLL.out.1]
          · rw [HLL.out.2, ← HLL.out.1]
            exact HR6.out.kept (four_set w6 w.heap.size _ _ _ _) (fun i hi e => (HR6.out.typeIs hi).ne (e' := 84) (by decide) ⟨_, (show i = w.heap.size from e) ▸ HD6.out⟩)
      · have er : res = .bad 0 := by rw [HRO.out]; exact if_neg (fun h => hq h.2)
        subst er
        have hne : ((ofL (streamL st)).toList == text.toList) = false := (Lib.bytes_beq_false_iff _ _).2 (fun e => hq (by have := congrArg (fun x : ByteArray => x.data.toList) e; exact this))
        obtain ⟨ag, hag⟩ : ∃ ag, ag = ofL (streamL st) := ⟨_, rfl⟩
        rw [← hag] at hne
        have HAG := hid hag
        clear hl hll hjf HTA hj HSM HRO HST hq HLB hag
        go_wp2_with fail
        rw [← HW5.out]
        refine HWR.out.mono ?_
        rintro e w6 ⟨e1, k6⟩
        have e2 : e = .returned (.tuple #[.string ag, .nilIface]) := by rw [HAG.out]; exact e1
        subst e2
        obtain ⟨t, v, hg⟩ := HE.out 1 (by unfold NoSum; omega)
        have HG := hid hg
        have hd6 := HD5.out.kept k6 (fun h => h)
        have hd7 := hd6.kept ((Keeps.refl (fun _ => False) w6).al (.cells #[.int .i64 0, .iface t v] 175)) (fun h => h)
        obtain ⟨a0, a1, a2, a3, b0, b1, b2, b3, s0, s1, s2, s3⟩ := hd6.facts
        obtain ⟨c0, c1, c2, c3, f0, f1, f2, f3, r0, r1, r2, r3⟩ := hd7.facts
        have HK6 := hid (HK5.out.tr k6 (fun _ h => h))
        have g6 := HK6.out.cell hg (fun h => h)
        clear e1 k6 hd6 hd7 HWR hg
        go_wp2
        go_region
        all_goals
          go_wp2
          refine bodyPost_ret (v := .tuple #[strZ, .iface 173 (.pointer (some ⟨w6.heap.size, 0, none⟩))]) ?_ rfl ?_
          · unfold strZ
            rw [results_cell_tmp rfl]
            go_simp
          · exact ⟨⟨_, rfl, w6.heap.size, t, v, 1, rfl, HK6.out.size, heap_new w6 _, (by unfold NoSum; omega), HG.out⟩, (HK6.out.al _).dr⟩

theorem read_any (text : ByteArray) (w : World) (hts : text.size ≤ 10000000000) (hs : ErrAt w 0) (he : ErrsAt w) (ht : TurnsAt w) :
    Calls Tryz.prog 71 #[.string text] w (ReadPost (readO text.data.toList) w) := by
  obtain ⟨t, u, hs⟩ := hs
  have hlen : text.data.toList.length = text.size := rfl
  unfold readO
  by_cases h4 : text.data.toList.length < 4
  · rw [if_pos h4]
    exact read_short text w t u h4 hs
  · rw [if_neg h4]
    by_cases hq : text.data.toList.drop (text.data.toList.length - 4) = checkL (text.data.toList.take (text.data.toList.length - 4))
    · rw [if_pos hq]
      exact read_core text w (by omega) hts he ht hq
    · rw [if_neg hq]
      exact read_sum text w t u (by omega) hts hs ht hq

end Go.Proofs.YtpagenipflmlfaaGreatDoor

/- errors.Is of a fault and the error of the check: by Go's own text. -/

namespace Go.Proofs.YtpagenipflmlfaaGreatDoor

open Go.RowKit Go.Extern.Stop Go.Stop Go.Extern

/-! what the model's entries give at an error that errors.New has made -/

theorem Tryz.esTypeOf (v : Value) (w : World) : (Extern.ReflectliteType.typeOf #[.iface 275 v]).run Tryz.prog w = .ok (.iface 214 (.agg #[.pointer (some ⟨16, 275, none⟩)])) w := by kernel_rfl

def cmpEntry : Array Value → Sem Value := Extern.ReflectliteType.method fun t => do Extern.Rtype.noPackHeld "Comparable" t; pure (.bool (← typeInfo t).comparable)

theorem Tryz.esComparable (w : World) : (cmpEntry #[.agg #[.pointer (some ⟨16, 275, none⟩)]]).run Tryz.prog w = .ok (.bool true) w := by kernel_rfl

theorem Tryz.esMethod (v : Value) (w : World) : (Go.method 405 214 v "Comparable").run Tryz.prog w = .ok (205, v) w := by kernel_rfl

theorem Tryz.esComp : (Tryz.prog.info? 275).map (·.comparable) = some true := by kernel_rfl

theorem Tryz.esSize : (Tryz.prog.info? 293).map (·.size) = some 1 := by kernel_rfl

/-! what errors.is asks of an error's methods -/

theorem Tryz.esNoIs (v : Value) (xT : TypeId) (w : World) : (Instr.typeAssert (.iface 275 v) xT 216 true).run Tryz.prog w = .ok (.tuple #[.nilIface, .bool false]) w := run_typeAssert_lacksB Tryz.underlying216 (by kernel_rfl) (by kernel_rfl) v xT w

theorem Tryz.esNoUnwrap (v : Value) (xT : TypeId) (w : World) : (Instr.typeAssert (.iface 275 v) xT 219 true).run Tryz.prog w = .ok (.tuple #[.nilIface, .bool false]) w := run_typeAssert_lacksB Tryz.underlying219 (by kernel_rfl) (by kernel_rfl) v xT w

theorem Tryz.esNoUnwraps (v : Value) (xT : TypeId) (w : World) : (Instr.typeAssert (.iface 275 v) xT 220 true).run Tryz.prog w = .ok (.tuple #[.nilIface, .bool false]) w := run_typeAssert_lacksB Tryz.underlying220 (by kernel_rfl) (by kernel_rfl) v xT w

theorem Tryz.ftNoIs (v : Value) (xT : TypeId) (w : World) : (Instr.typeAssert (.iface 173 v) xT 216 true).run Tryz.prog w = .ok (.tuple #[.nilIface, .bool false]) w := run_typeAssert_lacksB Tryz.underlying216 (by kernel_rfl) (by kernel_rfl) v xT w

theorem Tryz.ftUnwrap (v : Value) (xT : TypeId) (w : World) : (Instr.typeAssert (.iface 173 v) xT 219 true).run Tryz.prog w = .ok (.tuple #[.iface 173 v, .bool true]) w := run_typeAssert_hasB Tryz.underlying219 (by kernel_rfl) v xT w

theorem Tryz.ftMethod (v : Value) (w : World) : (Go.method 405 173 v "Unwrap").run Tryz.prog w = .ok (201, v) w := by kernel_rfl

set_option maxRecDepth 100000 in
set_option maxHeartbeats 2000000 in
/-- a fault whose error is the one that is asked for -/
theorem is_sum (b : Nat) (a : Addr) (w : World) (h1 : w.cell? ⟨b, 1, none⟩ = some (.iface 275 (.pointer (some a)))) :
    Calls Tryz.prog 72 #[.iface 173 (.pointer (some ⟨b, 0, none⟩)), .iface 275 (.pointer (some a))] w fun e w' => e = .returned (.bool true) ∧ w' = w := by
  obtain ⟨i, hi, hcmp⟩ := Option.map_eq_some_iff.1 Tryz.esComp
  obtain ⟨j, hj, hjs⟩ := Option.map_eq_some_iff.1 Tryz.esSize
  have h8 := @run_callFunc_extern Tryz.prog 108 _ Extern.ReflectliteType.typeOf Tryz.func108 (by kernel_rfl) (by kernel_rfl) (by kernel_rfl) (by kernel_rfl)
  have h32 := @run_callFunc_extern Tryz.prog 205 _ cmpEntry Tryz.func205 (by kernel_rfl) (by kernel_rfl) (by kernel_rfl) (by kernel_rfl)
  have tT := Tryz.esTypeOf
  have cT := Tryz.esComparable
  have mR := Tryz.esMethod
  have nW := Tryz.ftNoIs
  have uW := Tryz.ftUnwrap
  have mU := Tryz.ftMethod
  have heq := run_eql_iface_ptr_same (P := Tryz.prog) w a Tryz.underlying141 Tryz.underlying275 hi hcmp hj
  have hty := run_eql_iface_types (P := Tryz.prog) 173 275 (.pointer (some ⟨b, 0, none⟩)) (.pointer (some a)) Tryz.underlying141 (by decide) w
  go_enter Tryz.func72, Tryz.ntmps72
  go_wp2
  refine wp_loop_rounds 2 ?_
  rw [rounds_succ]
  go_wp2
  rw [rounds_succ]
  go_wp2
  go_ret
  exact ⟨rfl, rfl⟩

set_option maxRecDepth 100000 in
set_option maxHeartbeats 2000000 in
/-- a fault with another error -/
theorem is_not_sum (b : Nat) (a c : Addr) (ca cb : Array Value) (ta tb : TypeId) (w : World) (h1 : w.cell? ⟨b, 1, none⟩ = some (.iface 275 (.pointer (some c)))) (hne : c ≠ a) (hc : w.heap[c.block]? = some (.cells ca ta (0, 0))) (ha : w.heap[a.block]? = some (.cells cb tb (0, 0))) :
    Calls Tryz.prog 72 #[.iface 173 (.pointer (some ⟨b, 0, none⟩)), .iface 275 (.pointer (some a))] w fun e w' => e = .returned (.bool false) ∧ w' = w := by
  obtain ⟨i, hi, hcmp⟩ := Option.map_eq_some_iff.1 Tryz.esComp
  obtain ⟨j, hj, hjs⟩ := Option.map_eq_some_iff.1 Tryz.esSize
  have h8 := @run_callFunc_extern Tryz.prog 108 _ Extern.ReflectliteType.typeOf Tryz.func108 (by kernel_rfl) (by kernel_rfl) (by kernel_rfl) (by kernel_rfl)
  have h32 := @run_callFunc_extern Tryz.prog 205 _ cmpEntry Tryz.func205 (by kernel_rfl) (by kernel_rfl) (by kernel_rfl) (by kernel_rfl)
  have tT := Tryz.esTypeOf
  have cT := Tryz.esComparable
  have mR := Tryz.esMethod
  have nE := Tryz.esNoIs
  have uE := Tryz.esNoUnwrap
  have vE := Tryz.esNoUnwraps
  have nW := Tryz.ftNoIs
  have uW := Tryz.ftUnwrap
  have mU := Tryz.ftMethod
  have heq := run_eql_iface_ptr_other (P := Tryz.prog) w Tryz.underlying141 Tryz.underlying275 hi hcmp hj (by rw [hjs]; decide) hne hc ha
  have hty := run_eql_iface_types (P := Tryz.prog) 173 275 (.pointer (some ⟨b, 0, none⟩)) (.pointer (some a)) Tryz.underlying141 (by decide) w
  go_enter Tryz.func72, Tryz.ntmps72
  go_wp2
  refine wp_loop_rounds 2 ?_
  rw [rounds_succ]
  go_wp2
  rw [rounds_succ]
  go_wp2
  go_ret
  exact ⟨rfl, rfl⟩

end Go.Proofs.YtpagenipflmlfaaGreatDoor

/- errors.As of a fault, at a variable for a fault: by Go's own text. -/

namespace Go.Proofs.YtpagenipflmlfaaGreatDoor

open Go.RowKit Go.Extern.Stop Go.Stop Go.Extern

/-! the model's entries for internal/reflectlite, each under a name of its own -/

def enValueOf : Array Value → Sem Value := fun args => ReflectliteValue.unpack (args.getD 0 (.tuple #[]))

def enType : Array Value → Sem Value := ReflectliteValue.methodAny (ReflectliteValue.valueError "reflectlite.Value.Type" 0) (fun t _ _ _ => ReflectliteType.toType t)

def enIsNil : Array Value → Sem Value := ReflectliteValue.method (ReflectliteValue.valueError "reflectlite.Value.IsNil" 0) ReflectliteValue.isNil

def enKind : Array Value → Sem Value := ReflectliteType.abiMethod fun t => do pure (.int .u8 (← Rtype.kind t))

def enElemT : Array Value → Sem Value := ReflectliteType.method ReflectliteType.elem

def enImplements : Array Value → Sem Value := ReflectliteType.relation "Implements" ReflectliteType.implements_

def enAssignable : Array Value → Sem Value := ReflectliteType.relation "AssignableTo" ReflectliteType.assignableTo

def enElemV : Array Value → Sem Value := ReflectliteValue.method (ReflectliteValue.valueError "reflectlite.Value.Elem" 0) ReflectliteValue.elem

def enSet : Array Value → Sem Value := ReflectliteValue.set

theorem Tryz.asValueOf2 (t : Addr) (w : World) : (enValueOf #[.iface 185 (.pointer (some t))]).run Tryz.prog w = .ok (.agg #[.pointer (some ⟨16, 185, none⟩), .pointer (some ⟨w.heap.size, 0, none⟩), .int .u64 150]) (w.alloc (.cells #[.pointer (some t)] 185)) := by kernel_rfl

theorem Tryz.asValueOf1 (t : Addr) (w : World) : (enValueOf #[.iface 173 (.pointer (some t))]).run Tryz.prog w = .ok (.agg #[.pointer (some ⟨16, 173, none⟩), .pointer (some ⟨w.heap.size, 0, none⟩), .int .u64 150]) (w.alloc (.cells #[.pointer (some t)] 173)) := by kernel_rfl

theorem Tryz.asType2 (a : Addr) (w : World) : (enType #[.agg #[.pointer (some ⟨16, 185, none⟩), .pointer (some a), .int .u64 150]]).run Tryz.prog w = .ok (.iface 214 (.agg #[.pointer (some ⟨16, 185, none⟩)])) w := by kernel_rfl

theorem Tryz.asMethodKind (h : Value) (w : World) : (Go.method 405 214 (.agg #[h]) "Kind").run Tryz.prog w = .ok (197, h) w := by kernel_rfl

theorem Tryz.asKind2 (w : World) : (enKind #[.pointer (some ⟨16, 185, none⟩)]).run Tryz.prog w = .ok (.int .u8 22) w := by kernel_rfl

theorem Tryz.asKind1 (w : World) : (enKind #[.pointer (some ⟨16, 173, none⟩)]).run Tryz.prog w = .ok (.int .u8 22) w := by kernel_rfl

theorem Tryz.asMethodElem (h : Value) (w : World) : (Go.method 405 214 (.agg #[h]) "Elem").run Tryz.prog w = .ok (206, .agg #[h]) w := by kernel_rfl

theorem Tryz.asMethodImplements (h : Value) (w : World) : (Go.method 405 214 (.agg #[h]) "Implements").run Tryz.prog w = .ok (207, .agg #[h]) w := by kernel_rfl

theorem Tryz.asMethodAssignable (h : Value) (w : World) : (Go.method 405 214 (.agg #[h]) "AssignableTo").run Tryz.prog w = .ok (204, .agg #[h]) w := by kernel_rfl

theorem Tryz.asElem2 (w : World) : (enElemT #[.agg #[.pointer (some ⟨16, 185, none⟩)]]).run Tryz.prog w = .ok (.iface 214 (.agg #[.pointer (some ⟨16, 173, none⟩)])) w := by kernel_rfl

theorem Tryz.asImplements1 (w : World) : (enImplements #[.agg #[.pointer (some ⟨16, 173, none⟩)], .iface 214 (.agg #[.pointer (some ⟨16, 141, none⟩)])]).run Tryz.prog w = .ok (.bool true) w := by kernel_rfl

theorem Tryz.asTypeOf1 (v : Value) (w : World) : (ReflectliteType.typeOf #[.iface 173 v]).run Tryz.prog w = .ok (.iface 214 (.agg #[.pointer (some ⟨16, 173, none⟩)])) w := by kernel_rfl

theorem Tryz.asAssignable1 (w : World) : (enAssignable #[.agg #[.pointer (some ⟨16, 173, none⟩)], .iface 214 (.agg #[.pointer (some ⟨16, 173, none⟩)])]).run Tryz.prog w = .ok (.bool true) w := by kernel_rfl

/-! those that read or write memory -/

theorem Tryz.asParts2 (a : Addr) (w : World) : (ReflectliteValue.parts (.agg #[.pointer (some ⟨16, 185, none⟩), .pointer (some a), .int .u64 150])).run Tryz.prog w = .ok (some (185, a, 150)) w := by kernel_rfl

theorem Tryz.asParts1a (a : Addr) (w : World) : (ReflectliteValue.parts (.agg #[.pointer (some ⟨16, 173, none⟩), .pointer (some a), .int .u64 406])).run Tryz.prog w = .ok (some (173, a, 406)) w := by kernel_rfl

theorem Tryz.asParts1 (a : Addr) (w : World) : (ReflectliteValue.parts (.agg #[.pointer (some ⟨16, 173, none⟩), .pointer (some a), .int .u64 150])).run Tryz.prog w = .ok (some (173, a, 150)) w := by kernel_rfl

theorem Tryz.asElemOf2 (w : World) : (Rtype.elem? 185).run Tryz.prog w = .ok (some 173) w := by kernel_rfl

theorem Tryz.asMk1 (p : Addr) (w : World) : (ReflectliteValue.mk 173 p ReflectliteValue.flagAddr).run Tryz.prog w = .ok (.agg #[.pointer (some ⟨16, 173, none⟩), .pointer (some p), .int .u64 406]) w := by kernel_rfl

theorem Tryz.asDirect1 (w : World) : (Rtype.directlyAssignable 173 173).run Tryz.prog w = .ok true w := by kernel_rfl

theorem Tryz.asIsNil2 (a p : Addr) (W : World) (ha : W.cell? a = some (.pointer (some p))) : (enIsNil #[.agg #[.pointer (some ⟨16, 185, none⟩), .pointer (some a), .int .u64 150]]).run Tryz.prog W = .ok (.bool false) W := by
  change Sem.run Tryz.prog (ReflectliteValue.parts (.agg #[.pointer (some ⟨16, 185, none⟩), .pointer (some a), .int .u64 150]) >>= _) W = _
  simp only [Sem.run_bind, Tryz.asParts2, Result.andThen]
  simp [ReflectliteValue.isNil, loadVar, isAgg, underlying, Tryz.underlying185, ha, Result.andThen]

theorem Tryz.asElemV2 (a p : Addr) (W : World) (ha : W.cell? a = some (.pointer (some p))) : (enElemV #[.agg #[.pointer (some ⟨16, 185, none⟩), .pointer (some a), .int .u64 150]]).run Tryz.prog W = .ok (.agg #[.pointer (some ⟨16, 173, none⟩), .pointer (some p), .int .u64 406]) W := by
  change Sem.run Tryz.prog (ReflectliteValue.parts (.agg #[.pointer (some ⟨16, 185, none⟩), .pointer (some a), .int .u64 150]) >>= _) W = _
  simp only [Sem.run_bind, Tryz.asParts2, Result.andThen]
  simp [ReflectliteValue.elem, loadVar, isAgg, underlying, Tryz.underlying185, ha, Result.andThen, Tryz.asElemOf2, Tryz.asMk1]

theorem Tryz.asSet1 (ta b e : Addr) (old : Value) (W : World) (hb : W.cell? b = some (.pointer (some e))) (ht : W.cell? ta = some old) (hf : W.frozen? ta = false) : (enSet #[.agg #[.pointer (some ⟨16, 173, none⟩), .pointer (some ta), .int .u64 406], .agg #[.pointer (some ⟨16, 173, none⟩), .pointer (some b), .int .u64 150]]).run Tryz.prog W = .ok (.tuple #[]) (W.setCell ta (.pointer (some e))) := by
  change Sem.run Tryz.prog (ReflectliteValue.parts (.agg #[.pointer (some ⟨16, 173, none⟩), .pointer (some ta), .int .u64 406]) >>= fun p => ReflectliteValue.parts (.agg #[.pointer (some ⟨16, 173, none⟩), .pointer (some b), .int .u64 150]) >>= _) W = _
  simp only [Sem.run_bind, Tryz.asParts1a, Tryz.asParts1, Result.andThen]
  simp [ReflectliteValue.flagAddr, loadVar, isAgg, underlying, Tryz.underlying173, hb, Result.andThen, Tryz.asDirect1, storeVar, Value.cells, storeCells, Addr.add]
  rw [run_store Tryz.prog W ta _ _ (by rfl)]
  simp [ht, hf]

set_option maxRecDepth 100000 in
set_option maxHeartbeats 4000000 in
/-- the variable gets the fault; four blocks are new -/
theorem as_fault (e t : Addr) (old : Value) (w : World) (hg : w.cell? ⟨2, 0, none⟩ = some (.iface 214 (.agg #[.pointer (some ⟨16, 141, none⟩)]))) (ht0 : w.cell? t = some old) (hf0 : w.frozen? t = false) :
    Calls Tryz.prog 110 #[.iface 173 (.pointer (some e)), .iface 185 (.pointer (some t))] w fun ev w' => ev = .returned (.bool true) ∧ w' = ((((w.alloc (.cells #[.pointer (some t)] 185)).alloc (.cells #[.pointer (some ⟨16, 185, none⟩), .pointer (some ⟨w.heap.size, 0, none⟩), .int .u64 150] 226)).alloc (.cells #[.pointer (some ⟨16, 185, none⟩), .pointer (some ⟨w.heap.size, 0, none⟩), .int .u64 150] 226)).alloc (.cells #[.pointer (some e)] 173)).setCell t (.pointer (some e)) := by
  have h6 := @run_callFunc_extern Tryz.prog 139 _ enValueOf Tryz.func139 (by kernel_rfl) (by kernel_rfl) (by kernel_rfl) (by kernel_rfl)
  have h7 := @run_callFunc_extern Tryz.prog 140 _ enType Tryz.func140 (by kernel_rfl) (by kernel_rfl) (by kernel_rfl) (by kernel_rfl)
  have h8 := @run_callFunc_extern Tryz.prog 141 _ enIsNil Tryz.func141 (by kernel_rfl) (by kernel_rfl) (by kernel_rfl) (by kernel_rfl)
  have h27 := @run_callFunc_extern Tryz.prog 197 _ enKind Tryz.func197 (by kernel_rfl) (by kernel_rfl) (by kernel_rfl) (by kernel_rfl)
  have h37 := @run_callFunc_extern Tryz.prog 206 _ enElemT Tryz.func206 (by kernel_rfl) (by kernel_rfl) (by kernel_rfl) (by kernel_rfl)
  have h38 := @run_callFunc_extern Tryz.prog 207 _ enImplements Tryz.func207 (by kernel_rfl) (by kernel_rfl) (by kernel_rfl) (by kernel_rfl)
  have h10 := @run_callFunc_extern Tryz.prog 108 _ ReflectliteType.typeOf Tryz.func108 (by kernel_rfl) (by kernel_rfl) (by kernel_rfl) (by kernel_rfl)
  have h35 := @run_callFunc_extern Tryz.prog 204 _ enAssignable Tryz.func204 (by kernel_rfl) (by kernel_rfl) (by kernel_rfl) (by kernel_rfl)
  have h11 := @run_callFunc_extern Tryz.prog 159 _ enElemV Tryz.func159 (by kernel_rfl) (by kernel_rfl) (by kernel_rfl) (by kernel_rfl)
  have h12 := @run_callFunc_extern Tryz.prog 160 _ enSet Tryz.func160 (by kernel_rfl) (by kernel_rfl) (by kernel_rfl) (by kernel_rfl)
  have tO := Tryz.asTypeOf1
  have mA := Tryz.asMethodAssignable
  have a25 := Tryz.asAssignable1
  have v25 := Tryz.asValueOf1
  have f6 := Tryz.asValueOf2
  have f7 := Tryz.asType2
  have mK := Tryz.asMethodKind
  have mE := Tryz.asMethodElem
  have mI := Tryz.asMethodImplements
  have k27 := Tryz.asKind2
  have k25 := Tryz.asKind1
  have e27 := Tryz.asElem2
  have i25 := Tryz.asImplements1
  have n8 := Tryz.asIsNil2 ⟨w.heap.size, 0, none⟩ t ((w.alloc (.cells #[.pointer (some t)] 185)).alloc (.cells #[.pointer (some ⟨16, 185, none⟩), .pointer (some ⟨w.heap.size, 0, none⟩), .int .u64 150] 226)) (by simp)
  have hlt : 2 < w.heap.size := World.block_lt_of_cell? _ _ hg
  have hg2 : ((w.alloc (.cells #[.pointer (some t)] 185)).alloc (.cells #[.pointer (some ⟨16, 185, none⟩), .pointer (some ⟨w.heap.size, 0, none⟩), .int .u64 150] 226)).cell? ⟨2, 0, none⟩ = some (.iface 214 (.agg #[.pointer (some ⟨16, 141, none⟩)])) := by
    rw [World.cell?_alloc_lt _ _ ⟨2, 0, none⟩ (by simp; omega), World.cell?_alloc_lt _ _ ⟨2, 0, none⟩ hlt]; exact hg
  have htl : t.block < w.heap.size := World.block_lt_of_cell? _ _ ht0
  have el := Tryz.asElemV2 ⟨w.heap.size, 0, none⟩ t (((w.alloc (.cells #[.pointer (some t)] 185)).alloc (.cells #[.pointer (some ⟨16, 185, none⟩), .pointer (some ⟨w.heap.size, 0, none⟩), .int .u64 150] 226)).alloc (.cells #[.pointer (some ⟨16, 185, none⟩), .pointer (some ⟨w.heap.size, 0, none⟩), .int .u64 150] 226)) (by rw [World.cell?_alloc_lt _ _ ⟨w.heap.size, 0, none⟩ (by simp; omega)]; simp)
  have st := Tryz.asSet1 t ⟨w.heap.size + 1 + 1 + 1, 0, none⟩ e old ((((w.alloc (.cells #[.pointer (some t)] 185)).alloc (.cells #[.pointer (some ⟨16, 185, none⟩), .pointer (some ⟨w.heap.size, 0, none⟩), .int .u64 150] 226)).alloc (.cells #[.pointer (some ⟨16, 185, none⟩), .pointer (some ⟨w.heap.size, 0, none⟩), .int .u64 150] 226)).alloc (.cells #[.pointer (some e)] 173))
    (by rw [World.cell?_alloc_at _ _ _ _ (by simp)]; rfl)
    (by rw [World.cell?_alloc_lt _ _ t (by simp; omega), World.cell?_alloc_lt _ _ t (by simp; omega), World.cell?_alloc_lt _ _ t (by simp; omega), World.cell?_alloc_lt _ _ t htl]; exact ht0)
    (by rw [World.frozen?_alloc_old _ _ t (by simp; omega), World.frozen?_alloc_old _ _ t (by simp; omega), World.frozen?_alloc_old _ _ t (by simp; omega), World.frozen?_alloc_old _ _ t (Nat.ne_of_lt htl)]; exact hf0)
  go_enter Tryz.func110, Tryz.ntmps110
  go_wp2
  refine wp_loop_rounds 1 ?_
  rw [rounds_succ]
  go_wp2
  go_ret
  exact ⟨rfl, rfl⟩

end Go.Proofs.YtpagenipflmlfaaGreatDoor

/- Encode, Decode. -/

namespace Go.Proofs.YtpagenipflmlfaaGreatDoor

open Go.RowKit Go.Shelf

/-- the package-level variables as the program lays them: errors that errors.New made, the one of the check apart from the others; the type of errors; the table -/
structure Glob (w : World) : Prop where
  sum : ∃ a : Addr, w.cell? ⟨0, 0, none⟩ = some (.iface 275 (.pointer (some a))) ∧ (∃ ca ta, w.heap[a.block]? = some (.cells ca ta (0, 0))) ∧ ∀ g, NoSum g → ∃ c : Addr, w.cell? ⟨g, 0, none⟩ = some (.iface 275 (.pointer (some c))) ∧ c ≠ a ∧ ∃ ca ta, w.heap[c.block]? = some (.cells ca ta (0, 0))
  type : w.cell? ⟨2, 0, none⟩ = some (.iface 214 (.agg #[.pointer (some ⟨16, 141, none⟩)]))
  turns : TurnsAt w

theorem cells_kept {w w' : World} {k : Nat} (h : ∃ ca ta, w.heap[k]? = some (.cells ca ta (0, 0))) (hk : Keeps (fun _ => False) w w') : ∃ ca ta, w'.heap[k]? = some (.cells ca ta (0, 0)) := by
  obtain ⟨ca, ta, h⟩ := h
  exact ⟨ca, ta, (hk.block k (Array.getElem?_eq_some_iff.1 h).1 (fun h => h)).trans h⟩

theorem Glob.kept {w w' : World} (h : Glob w) (hk : Keeps (fun _ => False) w w') : Glob w' := by
  obtain ⟨⟨a, h1, h2, h3⟩, h4, h5⟩ := h
  refine ⟨⟨a, hk.cell h1 (fun h => h), cells_kept h2 hk, fun g hg => ?_⟩, hk.cell h4 (fun h => h), h5.kept hk (fun h => h)⟩
  obtain ⟨c, c1, c2, c3⟩ := h3 g hg
  exact ⟨c, hk.cell c1 (fun h => h), c2, cells_kept c3 hk⟩

theorem Glob.errs {w : World} (h : Glob w) : ErrsAt w := fun g hg => by
  obtain ⟨⟨a, -, -, h3⟩, -, -⟩ := h
  obtain ⟨c, c1, -⟩ := h3 g hg
  exact ⟨_, _, c1⟩

theorem Glob.zero {w : World} (h : Glob w) : ErrAt w 0 := by
  obtain ⟨⟨a, h1, -⟩, -, -⟩ := h
  exact ⟨_, _, h1⟩

theorem Glob.judge {w : World} (h : Glob w) : ∀ g, 3 ≤ g → g ≤ 7 → ErrAt w g := fun g h1 h2 => h.errs g (by unfold NoSum; omega)

set_option maxRecDepth 100000 in
set_option maxHeartbeats 2000000 in
theorem placeOf_any (b p : Nat) (x : Value) (w : World) (hg : Glob w) (hb : w.heap[b]? = some (.cells #[.int .i64 (p : Nat), x] 175 (0, 0))) :
    Calls Tryz.prog 73 #[.iface 173 (.pointer (some ⟨b, 0, none⟩))] w fun e w' => e = .returned (.int .i64 (p : Nat)) ∧ Keeps (fun _ => False) w w' := by
  have hbl := (Array.getElem?_eq_some_iff.1 hb).1
  have HA : Hid (Calls Tryz.prog 110 #[.iface 173 (.pointer (some ⟨b, 0, none⟩)), .iface 185 (.pointer (some ⟨w.heap.size, 0, none⟩))] (w.alloc (.cells #[.pointer none] 173)) fun e w' => e = .returned (.bool true) ∧ w'.cell? ⟨w.heap.size, 0, none⟩ = some (.pointer (some ⟨b, 0, none⟩)) ∧ w'.cell? ⟨b, 0, none⟩ = some (.int .i64 (p : Nat)) ∧ Keeps (fun _ => False) w w') := by
    have hn := heap_new w (.cells #[.pointer none] 173)
    have ka := Keeps.alloc (fun _ => False) w (.cells #[.pointer none] 173)
    refine (as_fault ⟨b, 0, none⟩ ⟨w.heap.size, 0, none⟩ (.pointer none) _ (ka.cell hg.type (fun h => h)) (cell_of_heap hn 0) (frozen_of_heap hn 0)).mono ?_
    rintro e w' ⟨rfl, hw⟩
    have k1 : Keeps (fun _ => False) w w' := by
      rw [hw]
      exact ((((((Keeps.refl (fun _ => False) w).al (.cells #[.pointer none] 173)).al _).al _).al _).al _).trans (Keeps.setCell _ ⟨w.heap.size, 0, none⟩ (.pointer (some ⟨b, 0, none⟩))) (fun k hk e => by have e' : k = w.heap.size := e; omega)
    refine ⟨rfl, ?_, k1.cell (cell_of_heap hb 0) (fun h => h), k1⟩
    rw [hw]
    exact World.cell?_setCell_same _ _ _ (((((Keeps.refl (fun _ => False) _).al _).al _).al _ |>.al _).cell (cell_of_heap hn 0) (fun h => h))
  clear hg hb hbl
  go_enter Tryz.func73, Tryz.ntmps73
  go_wp2_with fail
  refine HA.out.mono ?_
  rintro e w1 ⟨rfl, c0, c1, k1⟩
  have HK := hid k1
  clear HA k1
  go_wp2
  go_ret
  exact ⟨rfl, HK.out⟩

end Go.Proofs.YtpagenipflmlfaaGreatDoor
