import Derived.Test.YtfcocbcihhdbkaaGreatDoorM34
import Derived.Deep.DeepCutAuto
import Derived.Deep.CutBlock

/- plays, with Look of both stores at its end. -/
namespace Go.Proofs.YtfcocbcihhdbkaaGreatDoor
open Go.RowKit Go.Shelf

set_option maxRecDepth 100000 in
set_option maxHeartbeats 4000000 in
theorem plays_high (oa : Option Addr) (len cap : Nat) (S : Nat → OpB) (w : World) (h : OpsAt w oa len S) (hl : len ≤ 2000000) :
    Calls Tryz.prog 10 #[.slice oa len cap, .int .i64 12] w fun e w' => e = .returned (.bool true) ∧ Keeps (fun _ => False) w w' := by
  have HOPS := hid h
  have HNEW := hid (fun W => new_g W)
  have hlI : (len : Int) ≤ 2000000 := by omega
  have HL := hid hl
  clear h hl
  go_enter Tryz.func10, Tryz.ntmps10
  go_wp2_with fail
  refine (HNEW.out _).mono ?_
  rintro e w1 ⟨rfl, s1, k1⟩
  have z1 : w.heap.size < w1.heap.size := s1.lt _ (by simp)
  have D1 : Hid (Duo 0 ((w1.alloc (.cells #[.slice none 0 0, .int .i64 0, .int .i64 0, .slice none 0 0, .int .i64 0, .slice none 0 0, .slice none 0 0, .int .i64 0] 79)).alloc (.cells #[.pointer (some ⟨w.heap.size, 0, none⟩), .pointer (some ⟨w1.heap.size, 0, none⟩), .string ⟨#[]⟩] 81)) (w1.heap.size + 1) [w.heap.size, w1.heap.size]) := duo_new s1
  have K1 := hid k1
  have K2 : Hid (Keeps (fun _ => False) w1 ((w1.alloc (.cells #[.slice none 0 0, .int .i64 0, .int .i64 0, .slice none 0 0, .int .i64 0, .slice none 0 0, .slice none 0 0, .int .i64 0] 79)).alloc (.cells #[.pointer (some ⟨w.heap.size, 0, none⟩), .pointer (some ⟨w1.heap.size, 0, none⟩), .string ⟨#[]⟩] 81))) := ((Keeps.refl (fun _ => False) w1).al _).al _
  have Z2 : Hid ((((w1.alloc (.cells #[.slice none 0 0, .int .i64 0, .int .i64 0, .slice none 0 0, .int .i64 0, .slice none 0 0, .slice none 0 0, .int .i64 0] 79)).alloc (.cells #[.pointer (some ⟨w.heap.size, 0, none⟩), .pointer (some ⟨w1.heap.size, 0, none⟩), .string ⟨#[]⟩] 81)).heap).size = w1.heap.size + 2) := by show _ = _; simp
  have T2 : Hid ((((w1.alloc (.cells #[.slice none 0 0, .int .i64 0, .int .i64 0, .slice none 0 0, .int .i64 0, .slice none 0 0, .slice none 0 0, .int .i64 0] 79)).alloc (.cells #[.pointer (some ⟨w.heap.size, 0, none⟩), .pointer (some ⟨w1.heap.size, 0, none⟩), .string ⟨#[]⟩] 81)).heap)[w1.heap.size + 1]? = some (.cells #[.pointer (some ⟨w.heap.size, 0, none⟩), .pointer (some ⟨w1.heap.size, 0, none⟩), .string ⟨#[]⟩] 81 (0, 0))) := by
    have := heap_new (w1.alloc (.cells #[.slice none 0 0, .int .i64 0, .int .i64 0, .slice none 0 0, .int .i64 0, .slice none 0 0, .slice none 0 0, .int .i64 0] 79)) (.cells #[.pointer (some ⟨w.heap.size, 0, none⟩), .pointer (some ⟨w1.heap.size, 0, none⟩), .string ⟨#[]⟩] 81)
    show _ = _
    simpa using this
  clear s1 k1
  go_wp2_with fail
  generalize ((w1.alloc (.cells #[.slice none 0 0, .int .i64 0, .int .i64 0, .slice none 0 0, .int .i64 0, .slice none 0 0, .slice none 0 0, .int .i64 0] 79)).alloc (.cells #[.pointer (some ⟨w.heap.size, 0, none⟩), .pointer (some ⟨w1.heap.size, 0, none⟩), .string ⟨#[]⟩] 81)) = w2 at *
  refine (HNEW.out _).mono ?_
  rintro e w3 ⟨rfl, s3, k3⟩
  have z3 : w2.heap.size < w3.heap.size := s3.lt _ (by simp)
  have D3 : Hid (Duo 0 ((w3.alloc (.cells #[.slice none 0 0, .int .i64 0, .int .i64 0, .slice none 0 0, .int .i64 0, .slice none 0 0, .slice none 0 0, .int .i64 0] 79)).alloc (.cells #[.pointer (some ⟨w2.heap.size, 0, none⟩), .pointer (some ⟨w3.heap.size, 0, none⟩), .string ⟨#[]⟩] 81)) (w3.heap.size + 1) [w2.heap.size, w3.heap.size]) := duo_new s3
  have K3 := hid k3
  have K4 : Hid (Keeps (fun _ => False) w3 ((w3.alloc (.cells #[.slice none 0 0, .int .i64 0, .int .i64 0, .slice none 0 0, .int .i64 0, .slice none 0 0, .slice none 0 0, .int .i64 0] 79)).alloc (.cells #[.pointer (some ⟨w2.heap.size, 0, none⟩), .pointer (some ⟨w3.heap.size, 0, none⟩), .string ⟨#[]⟩] 81))) := ((Keeps.refl (fun _ => False) w3).al _).al _
  have Z4 : Hid ((((w3.alloc (.cells #[.slice none 0 0, .int .i64 0, .int .i64 0, .slice none 0 0, .int .i64 0, .slice none 0 0, .slice none 0 0, .int .i64 0] 79)).alloc (.cells #[.pointer (some ⟨w2.heap.size, 0, none⟩), .pointer (some ⟨w3.heap.size, 0, none⟩), .string ⟨#[]⟩] 81)).heap).size = w3.heap.size + 2) := by show _ = _; simp
  have T4 : Hid ((((w3.alloc (.cells #[.slice none 0 0, .int .i64 0, .int .i64 0, .slice none 0 0, .int .i64 0, .slice none 0 0, .slice none 0 0, .int .i64 0] 79)).alloc (.cells #[.pointer (some ⟨w2.heap.size, 0, none⟩), .pointer (some ⟨w3.heap.size, 0, none⟩), .string ⟨#[]⟩] 81)).heap)[w3.heap.size + 1]? = some (.cells #[.pointer (some ⟨w2.heap.size, 0, none⟩), .pointer (some ⟨w3.heap.size, 0, none⟩), .string ⟨#[]⟩] 81 (0, 0))) := by
    have := heap_new (w3.alloc (.cells #[.slice none 0 0, .int .i64 0, .int .i64 0, .slice none 0 0, .int .i64 0, .slice none 0 0, .slice none 0 0, .int .i64 0] 79)) (.cells #[.pointer (some ⟨w2.heap.size, 0, none⟩), .pointer (some ⟨w3.heap.size, 0, none⟩), .string ⟨#[]⟩] 81)
    show _ = _
    simpa using this
  clear s3 k3
  go_upto_region 3 with fail
  generalize ((w3.alloc (.cells #[.slice none 0 0, .int .i64 0, .int .i64 0, .slice none 0 0, .int .i64 0, .slice none 0 0, .slice none 0 0, .int .i64 0] 79)).alloc (.cells #[.pointer (some ⟨w2.heap.size, 0, none⟩), .pointer (some ⟨w3.heap.size, 0, none⟩), .string ⟨#[]⟩] 81)) = w4 at *
  have y0 : w4.cell? ⟨w1.heap.size + 1, 0, none⟩ = some (.pointer (some ⟨w.heap.size, 0, none⟩)) := K4.out.cell (K3.out.cell (cell_of_heap T2.out 0) (fun h => h)) (fun h => h)
  have y1 : w4.cell? ⟨w3.heap.size + 1, 0, none⟩ = some (.pointer (some ⟨w2.heap.size, 0, none⟩)) := cell_of_heap T4.out 0
  have HT := hid (trio_new D1.out z1 Z2.out K3.out z3 D3.out Z4.out K4.out)
  have HK5 : Hid (Keeps (fun _ => False) w (w4.alloc (.cells #[.slice none 0 0, .slice none 0 0, .slice none 0 0, .slice none 0 0, .int .i64 0] 31))) := ((((K1.out.tr K2.out (fun _ h => h)).tr K3.out (fun _ h => h)).tr K4.out (fun _ h => h)).al _)
  clear D1 D3 K1 K2 K3 K4 Z2 Z4 T2 T4
  go_wp2_with fail
  generalize w4.alloc (.cells #[.slice none 0 0, .slice none 0 0, .slice none 0 0, .slice none 0 0, .int .i64 0] 31) = w5 at *
  generalize w4.heap.size = bb at *
  clear y0 y1
  go_loopw [5, 6, 8] (fun p q i wr => ∃ k : Nat, k ≤ len ∧ PlayAt w bb k p q i wr) (fun _ _ i _ => len - (intOf i).toNat)
  case atStart => exact ⟨0, Nat.zero_le _, _, _, rfl, rfl, rfl, by simpa using HT.out, HK5.out⟩
  case round =>
    obtain ⟨k, hk, pb, qb, rfl, rfl, rfl, htr, hkr⟩ := hrel
    have HTR := hid htr
    have HKR := hid hkr
    clear htr hkr HT HK5 HNEW z1 z3
    by_cases hlt : k < len
    · obtain ⟨b, off, rfl, hop⟩ := HOPS.out.kept HKR.out k hlt
      generalize S k = s at *
      obtain ⟨ok, on, om, okey, oval, fu, ta, tl, tc, sf, s1, s2, ra, rl, rc⟩ := s
      obtain ⟨c0, c1, c2, c3, c4, c5, c6, c7, c8, c9, c10, bk, bm, bkey, bval⟩ := hop
      simp only at c0 c1 c2 c3 c4 c5 c6 c7 c8 c9 c10 bk bm bkey bval
      have HLK : Hid (∀ W, Keeps (fun _ => False) wr W → Calls Tryz.prog 12 #[.pointer (some ⟨bb, 0, none⟩)] W fun e w' => e = .returned (.bool true) ∧ Keeps (fun _ => False) W w') := fun W hW => by
        obtain ⟨G, hG⟩ := (HTR.out.kept hW).book
        have := HL.out
        exact looks_any W hG (by omega)
      by_cases h8 : ok = 8
      · subst h8
        clear bk bm bkey bval
        go_wp2_with (go_at_call 12; go_must (refine (HLK.out _ ((Keeps.refl _ _).al _)).mono ?_; rintro e w6 ⟨rfl, k6⟩; have HK6 := hid k6; clear k6))
        have hk6 : Keeps (fun _ => False) wr w6 := ((Keeps.refl _ _).al _).tr HK6.out (fun _ h => h)
        exact ⟨⟨k + 1, by omega, qb, pb, rfl, rfl, by go_num, (HTR.out.swap.kept hk6).more (by omega) (by omega), HKR.out.tr hk6 (fun _ h => h)⟩, by simp only [intOf]; omega⟩
      · by_cases hhi : ok ≤ 12
        · have HST : Hid (∀ W, Keeps (fun _ => False) wr W → Calls Tryz.prog 29 #[.pointer (some ⟨pb, 0, none⟩), .pointer (some ⟨bb, 0, none⟩), .agg #[.int .i64 ok, .int .i64 on, .int .i64 om, .string okey, .string oval, .bool fu, .slice ta tl tc, .bool sf, .int .i64 s1, .int .i64 s2, .slice ra rl rc]] W fun e w' => e = .returned (.bool true) ∧ Trio w.heap.size (k * 1000 + 1000) (k + 1) w' pb qb bb ∧ Keeps (fun _ => False) w w') := fun W hW =>
            (HTR.out.kept hW).step (Nat.le_refl _) (HKR.out.tr hW (fun _ h => h)) (fun F1 G hb => step_any ok on om okey oval _ _ _ _ _ _ W hb (by have := HL.out; omega) (by have := HL.out; omega) bkey bval bm (by omega))
          clear bk bm bkey bval HLK
          go_wp2_with (first
            | (go_at_call 29; go_must (refine (HST.out _ ((Keeps.refl _ _).al _)).mono ?_; rintro e w6 ⟨rfl, t6, k6⟩; have HT6 := hid t6; have HK6 := hid k6; clear t6 k6))
            | (go_at_call 12; go_must (obtain ⟨G6, hG6⟩ := HT6.out.book; have HG6 := hid hG6; clear hG6; refine (looks_any _ HG6.out (by have := HL.out; omega)).mono ?_; rintro e w7 ⟨rfl, k7⟩; have HK7 := hid k7; clear k7)))
          exact ⟨⟨k + 1, by omega, pb, qb, rfl, rfl, by go_num, (HT6.out.kept HK7.out).more (by omega) (by omega), HK6.out.tr HK7.out (fun _ h => h)⟩, by simp only [intOf]; omega⟩
        · clear bk bm bkey bval
          go_wp2_with (go_at_call 12; go_must (refine (HLK.out _ ((Keeps.refl _ _).al _)).mono ?_; rintro e w6 ⟨rfl, k6⟩; have HK6 := hid k6; clear k6))
          have hk6 : Keeps (fun _ => False) wr w6 := ((Keeps.refl _ _).al _).tr HK6.out (fun _ h => h)
          exact ⟨⟨k + 1, by omega, pb, qb, rfl, rfl, by go_num, (HTR.out.kept hk6).more (by omega) (by omega), HKR.out.tr hk6 (fun _ h => h)⟩, by simp only [intOf]; omega⟩
    · have HA1 : Hid (Calls Tryz.prog 30 #[.pointer (some ⟨pb, 0, none⟩), .pointer (some ⟨bb, 0, none⟩)] wr fun e w' => e = .returned (.bool true) ∧ Trio w.heap.size (k * 1000 + 1000) (k + 1) w' pb qb bb ∧ Keeps (fun _ => False) w w') :=
        HTR.out.step (Nat.le_refl _) HKR.out (fun F1 G hb => asked_any wr hb (by have := HL.out; omega) (by have := HL.out; omega))
      clear HTR HKR HOPS
      go_wp2_with fail
      refine (HA1.out).mono ?_
      rintro e w6 ⟨rfl, t6, k6⟩
      have HA2 : Hid (Calls Tryz.prog 30 #[.pointer (some ⟨qb, 0, none⟩), .pointer (some ⟨bb, 0, none⟩)] w6 fun e w' => e = .returned (.bool true) ∧ Trio w.heap.size (k * 1000 + 1000 + 1000) (k + 1 + 1) w' qb pb bb ∧ Keeps (fun _ => False) w w') :=
        t6.swap.step (Nat.le_refl _) k6 (fun F1 G hb => asked_any w6 hb (by have := HL.out; omega) (by have := HL.out; omega))
      clear t6 k6 HA1
      go_wp2_with fail
      refine (HA2.out).mono ?_
      rintro e w7 ⟨rfl, t7, k7⟩
      have HT7 := hid t7
      have HK7 := hid k7
      clear t7 k7 HA2
      have hL2 : k * 1000 + 1000 + 1000 ≤ 10000000000 := by have := HL.out; omega
      obtain ⟨xp, yp, p1, p2, p3, p4, p5, p6, LP⟩ := HT7.out.swap.looks hL2
      obtain ⟨xq, yq, q1, q2, q3, q4, q5, q6, LQ⟩ := HT7.out.looks hL2
      obtain ⟨c0, c1, lxp, lyp⟩ := LP
      obtain ⟨d0, d1, lxq, lyq⟩ := LQ
      have HXP := hid lxp
      have HYP := hid lyp
      have HXQ := hid lxq
      have HYQ := hid lyq
      have HCC := hid (And.intro c0 (And.intro c1 (And.intro d0 d1)))
      clear lxp lyp lxq lyq hL2 HT7
      go_upto_region 24 with fail
      go_cut [4] (fun r wc => r = .bool true ∧ Keeps (fun _ => False) w7 wc)
      case first =>
        go_region_held3 (fun W => W.cell? ⟨pb, 0, none⟩ = some (.pointer (some ⟨xp, 0, none⟩)) ∧ W.cell? ⟨pb, 1, none⟩ = some (.pointer (some ⟨yp, 0, none⟩)) ∧ W.cell? ⟨qb, 0, none⟩ = some (.pointer (some ⟨xq, 0, none⟩)) ∧ W.cell? ⟨qb, 1, none⟩ = some (.pointer (some ⟨yq, 0, none⟩))) (go_keep) (first
          | (go_at_call 17; have hh := HK9.out; clear hh; refine (HXQ.out _ HK9.out).mono ?_; rintro e wa ⟨rfl, ka⟩; have i0 := ka.cell HCC.out.1 (fun h => h); have i1 := ka.cell HCC.out.2.1 (fun h => h); have i2 := ka.cell HCC.out.2.2.1 (fun h => h); have i3 := ka.cell HCC.out.2.2.2 (fun h => h); have HKA := hid ka; clear ka)
          | (go_at_call 17; refine (HXP.out _ (Keeps.drew _ _)).mono ?_; rintro e w8 ⟨rfl, k8⟩; have e0 := k8.cell HCC.out.1 (fun h => h); have e1 := k8.cell HCC.out.2.1 (fun h => h); have e2 := k8.cell HCC.out.2.2.1 (fun h => h); have e3 := k8.cell HCC.out.2.2.2 (fun h => h); have HK8 := hid k8; clear k8)
          | (go_at_call 31; have hh := HKA.out; clear hh; refine (HYQ.out _ HKA.out).mono ?_; rintro e wb ⟨rfl, kb⟩; have j0 := kb.cell HCC.out.1 (fun h => h); have j1 := kb.cell HCC.out.2.1 (fun h => h); have j2 := kb.cell HCC.out.2.2.1 (fun h => h); have j3 := kb.cell HCC.out.2.2.2 (fun h => h); have HKB := hid kb; clear kb)
          | (go_at_call 31; refine (HYP.out _ HK8.out).mono ?_; rintro e w9 ⟨rfl, k9⟩; have g0 := k9.cell HCC.out.1 (fun h => h); have g1 := k9.cell HCC.out.2.1 (fun h => h); have g2 := k9.cell HCC.out.2.2.1 (fun h => h); have g3 := k9.cell HCC.out.2.2.2 (fun h => h); have HK9 := hid k9; clear k9))
        go_wp2_with fail
        go_meet
        exact ⟨rfl, HKB.out⟩
      case rest =>
        obtain ⟨rfl, hkc⟩ := hcut
        have HKC := hid hkc
        clear hkc c0 c1 d0 d1
        go_wp2
        go_ret
        exact ⟨rfl, HK7.out.tr HKC.out (fun _ h => h)⟩

end Go.Proofs.YtfcocbcihhdbkaaGreatDoor
