import Derived.Test.YtgianpccgcjmjaaGreatDoorM33
import Derived.Deep.DeepCutAuto
import Derived.Deep.CutBlock

/- Held: what its calls answer, one behind the other. -/

namespace Go.Proofs.YtgianpccgcjmjaaGreatDoor

open Go.RowKit Go.Shelf

theorem stream_len {full : Bool} {a b : Nat} {L : List RecB} (hs : Small L) (hl : L.length ≤ 12) (ha : a ≤ 1000000000) (hb : b ≤ 1000000000) : (streamL ⟨full, a, b, L.map RecB.rec_⟩).length ≤ 100000 := by
  have h1 := head_len full (a := a) (b := b) (by omega) (by omega)
  have h2 := (parts_all L.length L (Nat.le_refl _)).1
  have h3 := (parts_len hs (List.range ((L.length + 3) / 4))).1
  rw [h2, List.length_range] at h3
  have n1 := numL_len 8 0 (by omega)
  have n2 := numL_len 8 L.length (by omega)
  rw [stream_told]
  simp only [tailL, sumL, List.length_append, List.length_cons, List.length_nil, List.length_map]
  omega

theorem held_mid {w : World} {b s : Nat} {wr : World} (h : HBef w b s wr) (hs : s ≤ 100000) :
    Calls Tryz.prog 6 #[.pointer (some ⟨b, 0, none⟩)] wr fun e w1 => (∃ x1 x2 x3 x4 x5 : Int, e = .returned (.agg #[.int .i64 (s : Int), .int .i64 x1, .int .i64 x2, .int .i64 x3, .int .i64 x4, .int .i64 x5])) ∧
      Calls Tryz.prog 7 #[.pointer (some ⟨b, 0, none⟩)] w1 fun e w2 => ∃ ps ov cv, e = .returned (.tuple #[.slice ov ps.length cv, .bool true]) ∧
        Calls Tryz.prog 8 #[.pointer (some ⟨b, 0, none⟩), .int .i64 (s : Int)] w2 fun e w3 => e = .returned (.int .i64 0) ∧ ∃ A, HBeh w b s ps (.slice ov ps.length cv) 0 A w3 := by
  obtain ⟨A, sA, a1, a2, a3, a4, a5, a6, kA⟩ := h
  refine (look_h sA (by omega)).mono ?_
  rintro e w1 ⟨rfl, s1, k1⟩
  rw [a4]
  refine ⟨⟨_, _, _, _, _, rfl⟩, ?_⟩
  have kw1 : Keeps (fun _ => False) w w1 := kA.tr k1 (fun _ h => h)
  refine (all_any s1 (fun j hj => Nat.lt_of_lt_of_le hj kw1.size) (by rw [a1]; simp) (by omega)).mono ?_
  rintro e w2 ⟨vl, rfl, row, own, s2, k2⟩
  rw [a4] at row
  obtain ⟨ov, cv, rfl, -, -⟩ := row.form
  have kw2 : Keeps (fun _ => False) w w2 := kw1.trans k2 (fun j hj h => h hj)
  refine ⟨A.pairs s, ov, cv, rfl, ?_⟩
  have hO2 : ∀ j, (j < w.heap.size ∨ (Value.slice ov (A.pairs s).length cv).ownBlock = some j) → j < w2.heap.size := fun j hj => by
    rcases hj with hj | hj
    · exact Nat.lt_of_lt_of_le hj kw2.size
    · exact row.lt hj
  refine (pin_h s s2 hO2 (by omega) (by show (decide (A.floor ≤ _) && decide (_ ≤ A.now)) = true; rw [a4, a5]; simp)).mono ?_
  rintro e w3 ⟨rfl, s3, k3⟩
  refine ⟨rfl, _, s3.more (by omega) (fun j hj => .inl hj), ⟨a1, ?_, a6, ?_, ?_, rfl⟩, a3, ?_, row.kept k3 (fun _ hg hn => hn (.inr hg)), fun g hg => Nat.le_trans kw1.size (own g hg), kw2.trans k3 (fun j hj h => h (.inl hj))⟩
  · show put A.pins (s : Int) _ = _
    rw [show A.asked1.pins = [] from a2, a2]
    rfl
  · show (s : Int) ≤ A.now
    omega
  · show A.floor ≤ _
    omega
  · show A.now = _
    rw [a4]; simp

/-- a store in which nothing is held, swept -/
structure HEnd (s : Int) (A : Gst) : Prop where
  works : A.works = []
  floor : A.floor = A.now
  total : (A.total : Int) = ((A.pairs A.now).length : Nat)
  upto : s ≤ A.now
  start : s = A.now → A.judgeJ true 0 s = 0
  past : s < A.now → A.judgeJ true 0 s = 5
  few : (A.pairs A.now).length ≤ 12

theorem held_end {w : World} {b s : Nat} {ps : List (ByteArray × ByteArray)} {ov : Option Addr} {cv : Nat} {k : Nat} {A : Gst} {wr : World} (h : HBeh w b s ps (.slice ov ps.length cv) k A wr) (hs : s ≤ 100000) (hk : k ≤ 100000) (hg : Glob w) :
    Calls Tryz.prog 10 #[.pointer (some ⟨b, 0, none⟩), .bool true, .int .i64 0, .int .i64 (s : Int), .slice none 0 0] wr fun e w1 => ∃ tx, e = .returned (.tuple #[.string tx, .bool true]) ∧
      Calls Tryz.prog 11 #[.string tx] w1 fun e w2 => ∃ b2, e = .returned (.tuple #[.pointer (some ⟨b2, 0, none⟩), .int .i64 0]) ∧
        Calls Tryz.prog 7 #[.pointer (some ⟨b2, 0, none⟩)] w2 fun e w3 => ∃ o2 c2, e = .returned (.tuple #[.slice o2 ps.length c2, .bool true]) ∧
          Calls Tryz.prog 12 #[.slice o2 ps.length c2, .slice ov ps.length cv] w3 fun e w4 => e = .returned (.bool true) ∧
            Calls Tryz.prog 13 #[.pointer (some ⟨b, 0, none⟩), .int .i64 (s : Int)] w4 fun e w5 => e = .returned (.int .i64 0) ∧
              Calls Tryz.prog 13 #[.pointer (some ⟨b, 0, none⟩), .int .i64 (s : Int)] w5 fun e w6 => e = .returned (.int .i64 1) ∧
                Calls Tryz.prog 9 #[.pointer (some ⟨b, 0, none⟩)] w6 fun e w7 => (∃ z : Int, e = .returned (.int .i64 z)) ∧ ∃ A, HAt (fun j => j < w.heap.size) 10000000 w7 b A ∧ HEnd s A ∧ Keeps (fun _ => False) w w7 := by
  have g0 := h.st.ok
  have hlen := h.hst.len g0
  have hsm : Small (ps.map recP) := by rw [← h.hst.pairs]; exact small_pairs g0
  have hnow := h.now
  have hju : judgeB true 0 (s : Nat) (ps.map recP) = true := by
    rw [← h.hst.pairs]
    exact judge_pairs g0 (by omega) (by rw [h.hst.pairs]; omega)
  have hback : (Gst.told (ps.map recP) (s : Nat)).pairs (s : Nat) = ps := by
    have := told_back g0 (s : Int)
    rw [h.hst.pairs] at this
    exact this
  have hc := copied_any (P := fun B => Hst s ps [((s : Int), 1)] B ∧ B.now = A.now) (L := ps.map recP) (full := true) (a := 0) (t := s) (n := 0) (cap := 0) (oa := none) (S := fun _ => ⟨0, 0, ByteArray.empty⟩) held_cpr h.st ⟨h.hst, rfl⟩ h.cops (h.hst.judge g0 h.cops (by omega)) (by rw [List.length_map]; exact hlen) hsm (by omega) (by omega) h.room (by omega) hg.turns h.keep (fun j hj => .inl hj) (fun i hi => absurd hi (by omega)) (by omega) (by unfold maxLen; omega)
  refine hc.mono ?_
  rintro e w1 ⟨rfl, A1, ⟨hh1, hn1⟩, hc1, -, -, s1, k1⟩
  refine ⟨_, rfl, ?_⟩
  have kw1 : Keeps (fun _ => False) w w1 := h.keep.trans k1 (fun j hj h => h (.inl hj))
  have row1 : PairsAt w1 (.slice ov ps.length cv) ps := h.row.kept k1 (fun _ hg hn => hn (.inr hg))
  have hlst := stream_len (full := true) (a := 0) (b := s) hsm (by rw [List.length_map]; exact hlen) (by omega) (by omega)
  have hr := restore_any (ofL (streamL ⟨true, 0, s, (ps.map recP).map RecB.rec_⟩)) w1 (by rw [ofL_size]; omega) (hg.kept kw1)
  rw [ofL_list, read_self hju] at hr
  refine hr.mono ?_
  rintro e w2 ⟨hx, k2⟩
  simp only [if_true] at hx
  obtain ⟨b2, F2, rfl, g2, hF2⟩ := hx
  rw [recs_recB] at g2
  refine ⟨b2, rfl, ?_⟩
  have s2 : HAt (fun j => j < w1.heap.size) 1000 w2 b2 (Gst.told (ps.map recP) (s : Nat)) := ⟨F2, g2, fun j hj hlt => by have := hF2 j hj; omega⟩
  refine (all_any s2 (fun j hj => Nat.lt_of_lt_of_le hj k2.size) (by simp [Gst.told]) (by omega)).mono ?_
  rintro e w3 ⟨v2, rfl, row2, own2, -, k3⟩
  have e2 : (Gst.told (ps.map recP) (s : Nat)).now = (s : Nat) := rfl
  rw [e2, hback] at row2
  obtain ⟨o2, c2, rfl, -, -⟩ := row2.form
  refine ⟨o2, c2, rfl, ?_⟩
  have kw13 : Keeps (fun _ => False) w1 w3 := k2.trans k3 (fun j hj h => h hj)
  have row3 : PairsAt w3 (.slice ov ps.length cv) ps := row1.kept kw13 (fun _ _ h => h)
  refine (same_eq _ _ ps w3 row2 row3).mono ?_
  rintro e w4 ⟨rfl, k4⟩
  refine ⟨rfl, ?_⟩
  have kw14 : Keeps (fun _ => False) w1 w4 := kw13.tr k4 (fun _ h => h)
  have kw4 : Keeps (fun _ => False) w w4 := kw1.tr kw14 (fun _ h => h)
  have s4 : HAt (fun j => j < w.heap.size) (4000000 + 31 * k + 1000) w4 b A1 := (s1.more (Nat.le_refl _) (fun j hj => .inl (.inl hj))).kept kw14 (fun _ _ h => h.elim)
  have hpn := hh1.pins
  have u1 : A1.unpinR s = 0 := by unfold Gst.unpinR; rw [hpn]; simp [look]
  have u2 : A1.unpinS s = { A1 with pins := [] } := by unfold Gst.unpinS; rw [hpn]; simp [look, del]
  have hun := unpin_h s s4 (fun j hj => Nat.lt_of_lt_of_le hj kw4.size) (by omega)
  rw [u1, u2] at hun
  refine hun.mono ?_
  rintro e w5 ⟨rfl, s5, k5⟩
  refine ⟨rfl, ?_⟩
  have kw5 : Keeps (fun _ => False) w w5 := kw4.trans k5 (fun j hj h => h hj)
  obtain ⟨B, hB⟩ : ∃ B : Gst, B = { A1 with pins := [] } := ⟨_, rfl⟩
  have hhB : Hst s ps [] B := by rw [hB]; exact ⟨hh1.works, rfl, hh1.keys, hh1.upto, hh1.floor, hh1.pairs⟩
  have hcB : B.copyings = [] := by rw [hB]; exact hc1
  have hnB : B.now = A.now := by rw [hB]; exact hn1
  rw [← hB] at s5
  clear hB
  have u3 : B.unpinR s = 1 := by unfold Gst.unpinR; rw [hhB.pins]; simp [look]
  have u4 : B.unpinS s = B := by unfold Gst.unpinS; rw [hhB.pins]; simp [look]
  have hun2 := unpin_h s s5 (fun j hj => Nat.lt_of_lt_of_le hj kw5.size) (by omega)
  rw [u3, u4] at hun2
  refine hun2.mono ?_
  rintro e w6 ⟨rfl, s6, k6⟩
  refine ⟨rfl, ?_⟩
  have kw6 : Keeps (fun _ => False) w w6 := kw5.trans k6 (fun j hj h => h hj)
  refine (sweep_h s6 (fun j hj => Nat.lt_of_lt_of_le hj kw6.size) (by omega)).mono ?_
  rintro e w7 ⟨rfl, s7, k7⟩
  have gB := s6.ok
  have hl := hhB.least0 hcB
  have hp : B.sweepS.pairs B.now = B.pairs B.now := pairs_swept gB (by omega)
  have hnow2 : B.sweepS.now = B.now := rfl
  have hfl : B.sweepS.floor = B.now := hl
  have hfew : (B.pairs B.now).length ≤ 12 := by
    have h1 := length_le_of_subset (rises_nodup gB.rises) hhB.keys
    have h2 := pairs_keys B B.now
    have h3 : K12.length = 12 := by simp [K12]
    omega
  refine ⟨⟨_, rfl⟩, _, s7.more (by omega) (fun j hj => .inl hj), ⟨hhB.works, hfl.trans hnow2.symm, ?_, hhB.upto, fun e => ?_, fun hlt => judge_past (by rw [hfl]; exact hlt), by rw [hnow2, hp]; exact hfew⟩, kw6.trans k7 (fun j hj h => h hj)⟩
  · rw [hnow2, hp]
    exact swept_one gB hl
  · refine Hst.judge (ps := B.sweepS.pairs s) (pins := []) ⟨hhB.works, hhB.pins, fun x hx => hhB.keys x (List.mem_filter.1 hx).1, hhB.upto, ?_, rfl⟩ s7.ok hcB (by omega)
    rw [hfl, e]
    exact Int.le_refl _

end Go.Proofs.YtgianpccgcjmjaaGreatDoor

/- Held. -/

namespace Go.Proofs.YtgianpccgcjmjaaGreatDoor

open Go.RowKit Go.Shelf

theorem state_now (y0 y1 y2 y3 y4 y5 : Int) (w : World) : (Instr.field 29 (.agg #[.int .i64 y0, .int .i64 y1, .int .i64 y2, .int .i64 y3, .int .i64 y4, .int .i64 y5]) 0).run Tryz.prog w = .ok (.int .i64 y0) w := by kernel_rfl

theorem state_floor (y0 y1 y2 y3 y4 y5 : Int) (w : World) : (Instr.field 29 (.agg #[.int .i64 y0, .int .i64 y1, .int .i64 y2, .int .i64 y3, .int .i64 y4, .int .i64 y5]) 1).run Tryz.prog w = .ok (.int .i64 y1) w := by kernel_rfl

set_option maxRecDepth 100000 in
set_option maxHeartbeats 4000000 in
theorem held_any (w : World) (o0 o1 : Option Addr) (n0 n1 c0 c1 : Nat) (S0 S1 : Nat → RawStep) (h0 : StepsAt w o0 n0 S0) (h1 : StepsAt w o1 n1 S1) (hg : Glob w) :
    Calls Tryz.prog 3 #[.slice o0 n0 c0, .slice o1 n1 c1] w fun e w' => e = .returned (.bool true) ∧ Keeps (fun _ => False) w w' := by
  have HB := hid (begunG_any w)
  have H0 := hid h0
  have H1 := hid h1
  have HG := hid hg
  clear h0 h1 hg
  have hfn := state_now
  have hff := state_floor
  go_enter Tryz.func3, Tryz.ntmps3
  go_upto_block 0 with (go_at_call 4; go_must (refine (HB.out).mono ?_; rintro e w1 ⟨b, rfl, hb, s1, k1⟩))
  have HI : Hid (HBef w b 0 w1) := ⟨Gst.zero, s1, rfl, rfl, rfl, rfl, rfl, fun k hk => (by cases hk), k1⟩
  clear s1 k1 HB
  go_cut [6] (fun i wc => (∃ z : Int, i = .int .i64 z) ∧ ∃ k, k ≤ 100000 ∧ HBef w b k wc)
  case first =>
    go_wp2_with fail
    go_loopw [6] (fun i wr => ∃ k : Nat, k ≤ 100000 ∧ i = .int .i64 k ∧ HBef w b k wr) (fun i _ => (100000 - intOf i).toNat)
    case atStart => exact ⟨0, by omega, rfl, HI.out⟩
    case round =>
      obtain ⟨k, hk, rfl, A, sA, a1, a2, a3, a4, a5, a6, kA⟩ := hrel
      have HA := hid (And.intro a1 (And.intro a2 (And.intro a3 (And.intro a4 (And.intro a5 a6)))))
      have HF : Hid (∃ k, k ≤ 100000 ∧ HBef w b k wr) := ⟨k, hk, A, sA, a1, a2, a3, a4, a5, a6, kA⟩
      clear HI
      by_cases hlt : k < n0
      · by_cases hl2 : k < 100000
        · obtain ⟨b0, off, rfl, hb0, q0, q1, q2, d1, d2, d3⟩ := H0.out.kept kA k hlt
          have HW := hid (writeG_any (S0 k).what (S0 k).key (S0 k).value sA (fun j hj => Nat.lt_of_lt_of_le hj kA.size) (by rw [a1]; simp) (by omega) (by omega) d1 d2 d3)
          have KA := hid kA
          have HL2 := hid hl2
          have hl3 : (k : Int) < 100000 := by omega
          clear d1 d2 d3 a1 a2 a3 a4 a5 a6 sA kA hl2 hk
          go_wp2_with (go_at_call 5; go_must (refine (HW.out).mono ?_; rintro e w2 hw2; obtain ⟨rfl, hw3⟩ := hbef_step HA.out KA.out hw2; have HW3 := hid hw3; clear hw2 hw3))
          exact ⟨⟨k + 1, HL2.out, by go_num, HW3.out⟩, by have := HL2.out; simp only [intOf]; omega⟩
        · have hl3 : ¬ (k : Int) < 100000 := by omega
          clear sA kA a1 a2 a3 a4 a5 a6 hl2 hk HA H0 H1
          go_wp2
          go_meet
          exact ⟨⟨_, rfl⟩, HF.out⟩
      · clear sA kA a1 a2 a3 a4 a5 a6 hk HA H0 H1
        go_wp2
        go_meet
        exact ⟨⟨_, rfl⟩, HF.out⟩
  case rest =>
    obtain ⟨⟨z, rfl⟩, s, hs, hF⟩ := hcut
    have HM := hid (held_mid hF hs)
    have HSS := hid hs
    clear hF H0 HI hs
    go_wp2_with fail
    refine HM.out.mono ?_
    rintro e w2 ⟨⟨x1, x2, x3, x4, x5, rfl⟩, m2⟩
    have HM2 := hid m2
    clear m2 HM
    go_wp2_with fail
    refine HM2.out.mono ?_
    rintro e w3 ⟨ps, ov, cv, rfl, m3⟩
    have HM3 := hid m3
    clear m3 HM2
    go_wp2_with fail
    refine HM3.out.mono ?_
    rintro e w4 ⟨rfl, m4⟩
    have HM4 := hid m4
    clear m4 HM3
    go_upto_block 2 with fail
    go_cut [12] (fun i wc => (∃ z : Int, i = .int .i64 z) ∧ ∃ k A, k ≤ 100000 ∧ HBeh w b s ps (.slice ov ps.length cv) k A wc)
    case first =>
      go_wp2_with fail
      go_loopw [12] (fun i wr => ∃ k : Nat, k ≤ 100000 ∧ i = .int .i64 k ∧ ∃ A, HBeh w b s ps (.slice ov ps.length cv) k A wr) (fun i _ => (100000 - intOf i).toNat)
      case atStart => exact ⟨0, by omega, rfl, HM4.out⟩
      case round =>
        obtain ⟨k, hk, rfl, A, hS⟩ := hrel
        have HS := hid hS
        have HKK := hid hk
        clear hS HM4 hk
        by_cases hlt : k < n1
        · by_cases hl2 : k < 100000
          · obtain ⟨b0, off, rfl, hb0, q0, q1, q2, d1, d2, d3⟩ := H1.out.kept HS.out.keep k hlt
            have HW := hid (writeG_any (S1 k).what (S1 k).key (S1 k).value HS.out.st HS.out.room (by rw [HS.out.hst.works]; simp) (by have := HS.out.now; have := HSS.out; omega) (by omega) d1 d2 d3)
            have HL2 := hid hl2
            have hl3 : (k : Int) < 100000 := by omega
            clear d1 d2 d3 hl2
            go_wp2_with fail
            refine (HW.out).mono ?_
            rintro e w5 hw
            obtain ⟨rfl, A2, hS2, hsw⟩ := hbeh_step HS.out hw HL2.out
            have HSW := hid hsw
            clear hw hS2 HW q0 q1 q2 HS hsw
            go_wp2_with fail
            refine HSW.out.mono ?_
            rintro e w6 ⟨⟨zz, rfl⟩, A3, hS3, hfl⟩
            have hlk := look_h hS3.st (by have := HL2.out; omega)
            rw [hfl] at hlk
            have HLK := hid hlk
            have HS3 := hid hS3
            clear HSW hS3 hlk hfl
            go_wp2_with fail
            refine HLK.out.mono ?_
            rintro e w7 ⟨rfl, s7, k7⟩
            have HS7 := hid (HS3.out.to (HS3.out.st.kept k7 (fun _ _ h => h.elim)) HS3.out.hst HS3.out.cops HS3.out.now (k7.mono (fun _ _ h => h.elim)))
            clear s7 k7 HLK HS3
            go_wp2
            exact ⟨⟨k + 1, HL2.out, by go_num, _, HS7.out⟩, by have := HL2.out; simp only [intOf]; omega⟩
          · have hl3 : ¬ (k : Int) < 100000 := by omega
            clear hl2 H1
            go_wp2
            go_meet
            exact ⟨⟨_, rfl⟩, _, _, HKK.out, HS.out⟩
        · clear H1
          go_wp2
          go_meet
          exact ⟨⟨_, rfl⟩, _, _, HKK.out, HS.out⟩
    case rest =>
      obtain ⟨⟨i2, rfl⟩, k2, A2, hk2, hS⟩ := hcut
      have HE := hid (held_end hS HSS.out hk2 HG.out)
      clear hS HM4 H1 hk2
      go_wp2_with fail
      refine HE.out.mono ?_
      rintro e w5 ⟨tx, rfl, m⟩
      have HE1 := hid m
      clear m HE
      go_wp2_with fail
      refine HE1.out.mono ?_
      rintro e w6 ⟨b2, rfl, m⟩
      have HE2 := hid m
      clear m HE1
      go_wp2_with fail
      refine HE2.out.mono ?_
      rintro e w7 ⟨o2, c2, rfl, m⟩
      have HE3 := hid m
      clear m HE2
      go_wp2_with fail
      refine HE3.out.mono ?_
      rintro e w8 ⟨rfl, m⟩
      have HE4 := hid m
      clear m HE3
      go_wp2_with fail
      refine HE4.out.mono ?_
      rintro e w9 ⟨rfl, m⟩
      have HE5 := hid m
      clear m HE4
      go_wp2_with fail
      refine HE5.out.mono ?_
      rintro e w10 ⟨rfl, m⟩
      have HE6 := hid m
      clear m HE5
      go_wp2_with fail
      refine HE6.out.mono ?_
      rintro e w11 ⟨⟨zz, rfl⟩, A3, s11, he, k11⟩
      have HEE := hid he
      have S11 := hid s11
      have K11 := hid k11
      have HLK := hid (fun W (hW : Keeps (fun _ => False) w11 W) => look_h (s11.kept hW (fun _ _ h => h.elim)) (by omega))
      clear s11 he k11 HE6
      go_wp2_with fail
      refine (HLK.out _ (Keeps.refl _ _)).mono ?_
      rintro e w12 ⟨rfl, s12, k12⟩
      have HALL := hid (fun W (hW : Keeps (fun _ => False) w12 W) => all_any ((s12.more (Nat.le_refl _) (O' := fun j => j < w.heap.size ∨ (w12.heap.size ≤ j ∧ j < W.heap.size)) (fun j hj => hj.imp id (fun h => h.1))).kept hW (fun _ _ h => h.elim)) (fun j hj => by have h1 := K11.out.size; have h2 := k12.size; have h3 := hW.size; omega) (by rw [HEE.out.works]; simp) (by omega))
      have K12' : Hid (Keeps (fun _ => False) w w12) := K11.out.tr k12 (fun _ h => h)
      have hfl := HEE.out.floor
      have htot := HEE.out.total
      obtain ⟨nw, hnw⟩ : ∃ nw, nw = A3.now := ⟨_, rfl⟩
      rw [hfl, htot]
      rw [← hnw]
      have HNW := hid hnw
      have HF12 := hid (HEE.out.few)
      obtain ⟨ln, hln⟩ : ∃ ln, ln = (A3.pairs nw).length := ⟨_, rfl⟩
      rw [← hln]
      have HLN := hid hln
      generalize (A3.works.length : Int) = y2
      generalize A3.pinSum = y3
      generalize (A3.copyings.length : Int) = y5
      clear s12 k12 HLK hfl htot hnw hln
      go_wp2_with fail
      refine (HALL.out _ ((Keeps.refl _ _).al _)).mono ?_
      rintro e w13 ⟨v3, rfl, row3, own3, s13, k13⟩
      rw [← HNW.out] at row3
      obtain ⟨o3, c3, rfl, -, -⟩ := row3.form
      rw [← HLN.out] at row3 own3 s13 ⊢
      have hbx := box_kept k13 (fun h => h (.inr ⟨Nat.le_refl _, by simp⟩))
      have hz : w12.heap.size < w13.heap.size := (Array.getElem?_eq_some_iff.1 hbx).1
      have K13 : Hid (Keeps (fun _ => False) w w13) := (K12'.out.al _).trans k13 (fun j hj h => h (.inl hj))
      have HSTA : Hid (∀ c : Int, A3.judgeJ true 0 s = c → (c = 0 ∨ c = 5) → Calls Tryz.prog 14 #[.pointer (some ⟨b, 0, none⟩), .bool true, .int .i64 0, .int .i64 (s : Int)] w13 fun e w' => ∃ n : Int, e = .returned (.tuple #[.int .i64 n, .int .i64 c]) ∧ Keeps (fun j => ¬ (j < w.heap.size ∨ j = w12.heap.size)) w13 w') := fun c hc h05 => by
        have h1 := HAt.call (s13.more (Nat.le_refl _) (O' := fun j => j < w.heap.size ∨ j = w12.heap.size) (fun j hj => .inl (.inl (hj.imp id (fun e => by rw [e]; exact ⟨Nat.le_refl _, by simp⟩))))) (fun j hj => by have := K13.out.size; omega) (fun _ hF => start_g true 0 (s : Int) hF (by omega))
        have hc' : A3.asked1.judgeJ true 0 s = c := hc
        unfold Gst.startR Gst.startS at h1
        rw [hc'] at h1
        refine h1.mono ?_
        rintro e w' ⟨rfl, -, hk⟩
        rcases h05 with rfl | rfl
        · exact ⟨_, rfl, hk⟩
        · exact ⟨_, rfl, hk⟩
      have HBX := hid hbx
      have HZ := hid hz
      clear row3 own3 s13 k13 HALL hbx hz
      by_cases hsn : (s : Int) = nw
      · have HST2 := hid (HSTA.out 0 (HEE.out.start (hsn.trans HNW.out)) (.inl rfl))
        subst hsn
        go_wp2_with fail
        refine HST2.out.mono ?_
        rintro e w14 ⟨nn, rfl, k14⟩
        have hb14 := (k14.block w12.heap.size HZ.out (fun h => h (.inr rfl))).trans HBX.out
        have q0 := cell_of_heap hb14 0
        have q1 := cell_of_heap hb14 1
        have q4 := cell_of_heap hb14 4
        simp at q0 q1 q4
        have K14 : Hid (Keeps (fun _ => False) w w14) := K13.out.trans k14 (fun j hj h => h (.inl hj))
        clear k14 hb14 HST2 HSTA
        go_wp2
        go_ret
        exact ⟨rfl, K14.out⟩
      · have hlt : (s : Int) < nw := by have := HEE.out.upto; have := HNW.out; omega
        have HST2 := hid (HSTA.out 5 (HEE.out.past (by have := HNW.out; omega)) (.inr rfl))
        clear hlt
        go_wp2_with fail
        refine HST2.out.mono ?_
        rintro e w14 ⟨nn, rfl, k14⟩
        have hb14 := (k14.block w12.heap.size HZ.out (fun h => h (.inr rfl))).trans HBX.out
        have q0 := cell_of_heap hb14 0
        have q1 := cell_of_heap hb14 1
        have q4 := cell_of_heap hb14 4
        simp at q0 q1 q4
        have K14 : Hid (Keeps (fun _ => False) w w14) := K13.out.trans k14 (fun j hj h => h (.inl hj))
        clear k14 hb14 HST2 HSTA hsn
        go_wp2
        go_ret
        exact ⟨rfl, K14.out⟩

end Go.Proofs.YtgianpccgcjmjaaGreatDoor

/- The statement Held, lifted to all that comes in. -/

namespace Go.Proofs.YtgianpccgcjmjaaGreatDoor

open Go.ChangeShapes Go.WideShapes Go.ChangeAt Go.RowKit Go.Deep

theorem Tryz.own : ownKnob Tryz.prog.godebug = none := by kernel_rfl

theorem Tryz.laidOut : laidOutB Tryz.prog = true := by kernel_rfl

theorem Tryz.cellsStep : Tryz.prog.cellsOf 27 = 3 := by kernel_rfl

theorem Tryz.cellsInt : Tryz.prog.cellsOf 3 = 1 := by kernel_rfl

theorem Tryz.cellsString : Tryz.prog.cellsOf 9 = 1 := by kernel_rfl

theorem wf_i64 {n : Int} (h : (Lit.int .i64 n).wf = true) : -9223372036854775808 ≤ n ∧ n ≤ 9223372036854775807 := by
  have := bounds_i64 h
  omega

set_option maxRecDepth 100000 in
/-- A list of raw steps that came in. -/
theorem steps_open {H : Type} {enc : TypeId × Value → H} {W : World} {base : Nat} {spare : Nat → Bool} {held : Bool} {fuel len0 cap0 : Nat} {a0 : Option Addr} {x : DataW H × List MemPlace}
    (h : DataW.trod enc Tryz.prog W base spare held fuel 22 [.slice a0 len0 cap0] = some x) : ∃ S, StepsAt W a0 len0 S ∧ len0 ≤ maxLen := by
  rcases open_slice Tryz.underlying22 h with ⟨hcs, _⟩ | ⟨a, len, cap, m, n, D, Pl, hcs, _, hl, hm, hmm, _, hel⟩
  · simp at hcs
    obtain ⟨rfl, rfl, rfl⟩ := hcs
    exact ⟨fun _ => ⟨0, 0, ByteArray.empty⟩, fun i hi => absurd hi (Nat.not_lt_zero _), Nat.zero_le _⟩
  · simp at hcs
    obtain ⟨rfl, rfl, rfl⟩ := hcs
    have hlm : len0 ≤ m := by rw [hmm]; split <;> omega
    have each : ∀ i, i < len0 → ∃ s : RawStep, W.cell? (a.add (i * 3)) = some (.int .i64 s.what) ∧ W.cell? (a.add (i * 3 + 1)) = some (.int .i64 s.key) ∧ W.cell? (a.add (i * 3 + 2)) = some (.string s.value) ∧
        (-9223372036854775808 ≤ s.what ∧ s.what ≤ 9223372036854775807) ∧ (-9223372036854775808 ≤ s.key ∧ s.key ≤ 9223372036854775807) ∧ s.value.size ≤ maxLen := by
      intro i hi
      obtain ⟨cs', h1, h2⟩ := hel i (by omega)
      rw [Tryz.cellsStep] at h1
      obtain ⟨_, hlen, hcell⟩ := World.cells?_some h1
      obtain ⟨xs, k, hk, hxy, _, hxl, hf⟩ := DataW.trod_struct Tryz.underlying27 h2
      match xs, hxl, cs', hlen with
      | [y0, y1, y2], _, [v0, v1, v2], _ =>
        have g0 := hf 0 _ rfl
        have g1 := hf 1 _ rfl
        have g2 := hf 2 _ rfl
        simp [Tryz.cellsInt, Tryz.cellsString] at g0 g1 g2
        have e0 := hcell 0 (by omega)
        have e1 := hcell 1 (by omega)
        have e2 := hcell 2 (by omega)
        rw [add_add] at e0 e1 e2
        obtain ⟨n0, c0, _, w0⟩ := DataW.trod_int Tryz.underlying3 g0
        obtain ⟨n1, c1, _, w1⟩ := DataW.trod_int Tryz.underlying3 g1
        obtain ⟨s2, c2, _, w2⟩ := DataW.trod_string Tryz.underlying9 g2
        simp at c0 c1 c2
        subst c0 c1 c2
        exact ⟨⟨n0, n1, s2⟩, by simpa using e0, by simpa using e1, by simpa using e2, wf_i64 w0, wf_i64 w1, w2⟩
    obtain ⟨S, hS⟩ := @choose_lt RawStep ⟨⟨0, 0, ByteArray.empty⟩⟩ len0 _ each
    refine ⟨S, fun i hi => ?_, by omega⟩
    obtain ⟨b, off, spot⟩ := a
    have hspot : spot = none := by
      have h0 := (hS 0 (by omega)).1
      simpa [Addr.add] using World.cell?_spot h0
    subst hspot
    have ea : ∀ j, (⟨b, off, none⟩ : Addr).add j = ⟨b, off + j, none⟩ := fun j => by
      unfold Addr.add
      by_cases hj : j = 0
      · simp [hj]
      · simp [hj]
    obtain ⟨q0, q1, q2, d⟩ := hS i hi
    rw [ea] at q0 q1 q2
    exact ⟨b, off, rfl, World.block_lt_of_cell? _ _ q0, q0, q1, q2, d⟩

/-- an error's text -/
def sentB : DataW Unit → ByteArray
  | .iface _ (.ptr (.agg [.lit (.string bs)])) => ⟨bs.toArray⟩
  | _ => ⟨#[]⟩

/-- a table's numbers -/
def tabV : DataW Unit → List Value
  | .agg l => l.map fun
    | .lit (.int k n) => .int k n
    | _ => .int .u32 0
  | _ => []

def putVar (P : Program) (h : Array Obj) (name : String) (cs : Array Value) : Array Obj := match P.globalNamed name with
  | some g => h.modify g fun
    | .cells _ t frozen => .cells cs t frozen
    | o => o
  | none => h

/-- the settled world, with a block for each error, the variables laid -/
def laidWorld (P : Program) (laid : List (String × DataW Unit)) (turns : DataW Unit) (os : Os) : World :=
  let N := (World.settled P os).heap.size
  let L := laid.drop 2
  let w0 := World.holding P os ⟨(L.map fun x => Obj.cells #[.string (sentB x.2)] 281).toArray, #[], []⟩
  let h0 := putVar P w0.heap "errors.errorType" #[.iface 203 (.agg #[.pointer (some ⟨16, 133, none⟩)])]
  let h1 := putVar P h0 "annals/stream.turns" (tabV turns).toArray
  { w0 with heap := L.zipIdx.foldl (fun h x => putVar P h x.1.1 #[.iface 263 (.pointer (some ⟨N + x.2, 0, none⟩))]) h1 }

theorem laid_met (os : Os) (args : Array Value) : laidMetH Tryz.prog Rows.heldRow.laid ((laidWorld Tryz.prog Rows.heldRow.laid Rows.laid_annals_stream_turns os).forCall (fun _ _ => 0) ⟨#[], args, []⟩).memory :=
  laidMetH_of_parts (laidMet_of_run' 8 (by kernel_rfl) (by kernel_rfl)) (by kernel_rfl)

theorem held_reads (os : Os) {H : Type} (enc : TypeId × Value → H) : ∃ places, DataW.whole enc Tryz.prog ((laidWorld Tryz.prog Rows.heldRow.laid Rows.laid_annals_stream_turns os).forCall (fun _ _ => 0) ⟨#[], #[.slice none 0 0, .slice none 0 0], []⟩).memory Tryz.f3.params.toList Rows.heldSpec.vars false #[Value.slice none 0 0, .slice none 0 0].toList 8 = some ([.nil, .nil], [], places) :=
  ⟨[], by kernel_rfl⟩

set_option maxRecDepth 100000 in
theorem held_lifted (os : Os) (started : os.Started) (H : Type) (enc : TypeId × Value → H) (F : Stop.Interp) :
    ReturnsInHanded {} Tryz.checked os 3 .any ((OpenSpec.ofChange Rows.heldSpec).preRow enc Tryz.prog Tryz.f3 Rows.heldRow.domain false Rows.heldRow.laid) (((OpenSpec.ofChange Rows.heldSpec).at F).post enc Tryz.prog Tryz.f3 false true false false) := by
  obtain ⟨places, hx⟩ := held_reads os enc
  refine returnsInHanded_of_row (C := Tryz.checked) (s := OpenSpec.ofChange Rows.heldSpec) Tryz.own started (by kernel_rfl) Tryz.func3
    (witness_row_atRef (enc := enc) (C := Tryz.checked) false (laidWorld Tryz.prog Rows.heldRow.laid Rows.laid_annals_stream_turns os) #[.slice none 0 0, .slice none 0 0] rfl (by kernel_rfl) (by kernel_rfl) (by kernel_rfl)
      (OpenSpec.preRow_of_cond 8 hx (by kernel_rfl) (fun k hk => by cases hk) (by kernel_rfl) (laid_met os _))) ?_
  intro W base args ds gs before hval0 hW _ _ _ hlaid _ _
  have hval : ∀ (j : Nat) t v, Tryz.f3.params[j]? = some t → args[j]? = some v → Value.okWide Tryz.prog W .any base t v := hval0
  have hW' := hW
  obtain ⟨p, q, hA0, hV, rfl, hfz, hnd⟩ := hW
  have hA : DataW.TrodAll enc Tryz.prog W 0 (fun _ => true) true Tryz.f3.params.toList args.toList ds p := hA0
  rw [Tryz.params3] at hA hval
  obtain ⟨v0, vs0, d0, ds0, p0, q0, hargs, rfl, rfl, h0, r0⟩ := trodAll_cons hA
  obtain ⟨v1, vs1, d1, ds1, p1, q1, rfl, rfl, rfl, h1, r1⟩ := trodAll_cons r0
  obtain ⟨rfl, rfl, rfl⟩ := trodAll_nil r1
  obtain rfl : args = #[v0, v1] := by cases args; simp_all
  obtain ⟨rfl, rfl⟩ := trodVars_none hV
  obtain ⟨a0, len0, cap0, rfl⟩ := okWide_slice Tryz.underlying22 (hval 0 22 v0 rfl rfl)
  obtain ⟨a1, len1, cap1, rfl⟩ := okWide_slice Tryz.underlying22 (hval 1 22 v1 rfl rfl)
  have k0 := h0
  have k1 := h1
  have lt0 : ∀ x ∈ p0, x.block < W.heap.size := by obtain ⟨m, hm⟩ := k0; exact DataW.trod_lt m _ _ _ hm
  have lt1 : ∀ x ∈ p1, x.block < W.heap.size := by obtain ⟨m, hm⟩ := k1; exact DataW.trod_lt m _ _ _ hm
  obtain ⟨S0, t0, -⟩ : ∃ S, StepsAt W a0 len0 S ∧ len0 ≤ maxLen := by
    obtain ⟨fuel, hf⟩ := h0
    exact steps_open (by simpa [Value.cells] using hf)
  obtain ⟨S1, t1, -⟩ : ∃ S, StepsAt W a1 len1 S ∧ len1 ≤ maxLen := by
    obtain ⟨fuel, hf⟩ := h1
    exact steps_open (by simpa [Value.cells] using hf)
  clear hA0 hval0
  refine (held_any W a0 a1 len0 len1 cap0 cap1 S0 S1 t0 t1 (glob_of_laid hlaid)).mono fun e W' ⟨he, hk⟩ => ?_
  subst he
  have bel : Below W.heap.size W W' := hk.toBelow (Nat.le_refl _) (fun _ _ h => h)
  exact ⟨_, rfl, _, _, _, [], _, [], hW', trodAll_mk1 (shut_bool Tryz.underlying4 _), (trodAll_cons_mk (Below.trod Tryz.laidOut (by kernel_rfl) (of_decide_eq_true (by kernel_rfl)) k0 bel lt0) (trodAll_cons_mk (Below.trod Tryz.laidOut (by kernel_rfl) (of_decide_eq_true (by kernel_rfl)) k1 bel lt1) trodAll_mk0)), rfl, bel.frame _, fun h => by cases h⟩

end Go.Proofs.YtgianpccgcjmjaaGreatDoor
