import Derived.Test.YtfcocbcihhdbkaaGreatDoorM33
import Derived.Deep.DeepCutAuto
import Derived.Deep.CutBlock

/- A script that came in: its steps' cells, its length. -/
namespace Go.Proofs.YtfcocbcihhdbkaaGreatDoor
open Go.ChangeShapes Go.WideShapes Go.ChangeAt Go.RowKit Go.Deep

/-- what a reading counts, at the least -/
theorem bulk_one {H : Type} (d : DataW H) : 1 ≤ Rows.uptoBulk d := by
  cases d with
  | lit l => cases l <;> simp [Rows.uptoBulk]
  | _ => simp [Rows.uptoBulk]

theorem bulk_length {H : Type} (l : List (DataW H)) : l.length ≤ Rows.uptoBulkAll l := by
  induction l with
  | nil => simp
  | cons x r ih =>
    have := bulk_one x
    simp only [Rows.uptoBulkAll, List.length_cons]
    omega

theorem trod_sl {H : Type} {enc : TypeId × Value → H} {W : World} {base : Nat} {spare : Nat → Bool} {held : Bool} {fuel : Nat} {t e : TypeId} {v : Value} {x : DataW H × List MemPlace} (ht : Tryz.prog.underlying t = some (.slice e)) (h : DataW.trod enc Tryz.prog W base spare held fuel t [v] = some x) : ∃ a l c, v = .slice a l c := by
  rcases open_slice ht h with ⟨hcs, _⟩ | ⟨a, len, cap, m, n, D, Pl, hcs, _⟩
  · exact ⟨none, 0, 0, by simpa using hcs⟩
  · exact ⟨some a, len, cap, by simpa using hcs⟩

set_option maxRecDepth 100000 in
set_option maxHeartbeats 1000000 in
/-- one step's cells -/
theorem op_open {H : Type} {enc : TypeId × Value → H} {W : World} {base : Nat} {spare : Nat → Bool} {held : Bool} {fuel : Nat} {a : Addr} {cs : List Value} {x : DataW H × List MemPlace} (h1 : W.cells? base a 11 = some cs)
    (h2 : DataW.trod enc Tryz.prog W base spare held fuel 72 cs = some x) : ∃ s : OpB, a.spot = none ∧ OpIn W a.block a.off s := by
  obtain ⟨_, hlen, hcell⟩ := World.cells?_some h1
  obtain ⟨xs, k, hk, hxy, _, hxl, hf⟩ := DataW.trod_struct Tryz.underlying72 h2
  match xs, hxl, cs, hlen with
  | [y0, y1, y2, y3, y4, y5, y6, y7], _, [v0, v1, v2, v3, v4, v5, v6, v7, v8, v9, v10], _ =>
    have g0 := hf 0 _ rfl
    have g1 := hf 1 _ rfl
    have g2 := hf 2 _ rfl
    have g3 := hf 3 _ rfl
    have g4 := hf 4 _ rfl
    have g5 := hf 5 _ rfl
    have g6 := hf 6 _ rfl
    have g7 := hf 7 _ rfl
    simp [Tryz.cellsInt, Tryz.cellsString, Tryz.cellsBool, Tryz.cellsStrings, Tryz.cellsStream] at g0 g1 g2 g3 g4 g5 g6 g7
    obtain ⟨zs, k7, _, _, _, hzl, hg⟩ := DataW.trod_struct Tryz.underlying37 g7
    match zs, hzl with
    | [z0, z1, z2, z3], _ =>
      have r0 := hg 0 _ rfl
      have r1 := hg 1 _ rfl
      have r2 := hg 2 _ rfl
      have r3 := hg 3 _ rfl
      simp [Tryz.cellsInt, Tryz.cellsBool, Tryz.cellsRecords] at r0 r1 r2 r3
      obtain ⟨n0, c0, _, w0⟩ := DataW.trod_int Tryz.underlying3 g0
      obtain ⟨n1, c1, _, w1⟩ := DataW.trod_int Tryz.underlying3 g1
      obtain ⟨n2, c2, _, w2⟩ := DataW.trod_int Tryz.underlying3 g2
      obtain ⟨s3, c3, _, w3⟩ := DataW.trod_string Tryz.underlying9 g3
      obtain ⟨s4, c4, _, w4⟩ := DataW.trod_string Tryz.underlying9 g4
      obtain ⟨b5, c5, _⟩ := DataW.trod_bool Tryz.underlying4 g5
      obtain ⟨a6, l6, k6, rfl⟩ := trod_sl Tryz.underlying26 g6
      obtain ⟨b7, c7, _⟩ := DataW.trod_bool Tryz.underlying4 r0
      obtain ⟨n8, c8, _, w8⟩ := DataW.trod_int Tryz.underlying3 r1
      obtain ⟨n9, c9, _, w9⟩ := DataW.trod_int Tryz.underlying3 r2
      obtain ⟨a10, l10, k10, rfl⟩ := trod_sl Tryz.underlying35 r3
      simp at c0 c1 c2 c3 c4 c5 c7 c8 c9
      subst c0 c1 c2 c3 c4 c5 c7 c8 c9
      have e := fun j (hj : j < 11) => hcell j hj
      obtain ⟨b, off, spot⟩ := a
      have hspot : spot = none := by
        have h0 : W.cell? ((⟨b, off, spot⟩ : Addr).add 0) = some (.int .i64 n0) := e 0 (by omega)
        have h00 := World.cell?_spot h0
        unfold Addr.add at h00
        rw [if_pos rfl] at h00
        exact h00
      subst hspot
      have ea : ∀ j, (⟨b, off, none⟩ : Addr).add j = ⟨b, off + j, none⟩ := fun j => by
        unfold Addr.add
        by_cases hj : j = 0
        · simp [hj]
        · simp [hj]
      have q0 := e 0 (by omega)
      have q1 := e 1 (by omega)
      have q2 := e 2 (by omega)
      have q3 := e 3 (by omega)
      have q4 := e 4 (by omega)
      have q5 := e 5 (by omega)
      have q6 := e 6 (by omega)
      have q7 := e 7 (by omega)
      have q8 := e 8 (by omega)
      have q9 := e 9 (by omega)
      have q10 := e 10 (by omega)
      rw [ea] at q0 q1 q2 q3 q4 q5 q6 q7 q8 q9 q10
      exact ⟨⟨n0, n1, n2, s3, s4, b5, a6, l6, k6, b7, n8, n9, a10, l10, k10⟩, rfl, ⟨by simpa using q0, by simpa using q1, by simpa using q2, by simpa using q3, by simpa using q4, by simpa using q5, by simpa using q6, by simpa using q7, by simpa using q8, by simpa using q9, by simpa using q10, wf_i64 w0, wf_i64 w2, w3, w4⟩⟩

/-- a script -/
theorem ops_open {H : Type} {enc : TypeId × Value → H} {W : World} {base : Nat} {spare : Nat → Bool} {held : Bool} {fuel len0 cap0 : Nat} {a0 : Option Addr} {x : DataW H × List MemPlace}
    (h : DataW.trod enc Tryz.prog W base spare held fuel 22 [.slice a0 len0 cap0] = some x) : ∃ S, OpsAt W a0 len0 S ∧ len0 ≤ Rows.uptoBulk x.1 := by
  rcases open_slice Tryz.underlying22 h with ⟨hcs, _⟩ | ⟨a, len, cap, m, n, D, Pl, hcs, _, hl, hm, hmm, hx, hel⟩
  · simp at hcs
    obtain ⟨rfl, rfl, rfl⟩ := hcs
    exact ⟨fun _ => ⟨0, 0, 0, ByteArray.empty, ByteArray.empty, false, none, 0, 0, false, 0, 0, none, 0, 0⟩, fun i hi => absurd hi (Nat.not_lt_zero _), Nat.zero_le _⟩
  · simp at hcs
    obtain ⟨rfl, rfl, rfl⟩ := hcs
    have hlm : len0 ≤ m := by rw [hmm]; split <;> omega
    have each : ∀ i, i < len0 → ∃ s : OpB, (a.add (i * 11)).spot = none ∧ OpIn W (a.add (i * 11)).block (a.add (i * 11)).off s := by
      intro i hi
      obtain ⟨cs', h1, h2⟩ := hel i (by omega)
      rw [Tryz.cellsOp] at h1
      exact op_open h1 h2
    obtain ⟨S, hS⟩ := @choose_lt OpB ⟨⟨0, 0, 0, ByteArray.empty, ByteArray.empty, false, none, 0, 0, false, 0, 0, none, 0, 0⟩⟩ len0 _ each
    refine ⟨S, fun i hi => ?_, ?_⟩
    · obtain ⟨b, off, spot⟩ := a
      have h0 := (hS 0 (by omega)).1
      have hspot : spot = none := by simpa [Addr.add] using h0
      subst hspot
      have ea : ∀ j, (⟨b, off, none⟩ : Addr).add j = ⟨b, off + j, none⟩ := fun j => by
        unfold Addr.add
        by_cases hj : j = 0
        · simp [hj]
        · simp [hj]
      have h1 := (hS i hi).2
      rw [ea] at h1
      exact ⟨b, off, rfl, h1⟩
    · rw [hx]
      have := bulk_length ((List.range len0).map D)
      simp only [Rows.uptoBulk]
      simp only [List.length_map, List.length_range] at this
      omega

end Go.Proofs.YtfcocbcihhdbkaaGreatDoor

/- plays: the loop of a script. -/
namespace Go.Proofs.YtfcocbcihhdbkaaGreatDoor
open Go.RowKit Go.Shelf

/-- what plays keeps between two steps -/
def PlayAt (w : World) (bb k : Nat) (p q i : Value) (wr : World) : Prop :=
  ∃ pb qb, p = .pointer (some ⟨pb, 0, none⟩) ∧ q = .pointer (some ⟨qb, 0, none⟩) ∧ i = .int .i64 k ∧ Trio w.heap.size (k * 1000) k wr pb qb bb ∧ Keeps (fun _ => False) w wr

set_option maxRecDepth 100000 in
set_option maxHeartbeats 4000000 in
theorem plays_low (oa : Option Addr) (len cap : Nat) (S : Nat → OpB) (hi : Int) (w : World) (h : OpsAt w oa len S) (hl : len ≤ 2000000) (h11 : hi < 12) :
    Calls Tryz.prog 10 #[.slice oa len cap, .int .i64 hi] w fun e w' => e = .returned (.bool true) ∧ Keeps (fun _ => False) w w' := by
  have HOPS := hid h
  have HNEW := hid (fun W => new_g W)
  have hlI : (len : Int) ≤ 2000000 := by omega
  have HL := hid hl
  clear h hl
  go_enter Tryz.func10, Tryz.ntmps10
  go_wp2_with fail
  refine (HNEW.out _).mono ?_
  rintro e w1 ⟨rfl, s1, k1⟩
  have z1 : w.heap.size < w1.heap.size := s1.lt _ (by simp)
  have D1 : Hid (Duo 0 ((w1.alloc (.cells #[.slice none 0 0, .int .i64 0, .int .i64 0, .slice none 0 0, .int .i64 0, .slice none 0 0, .slice none 0 0, .int .i64 0] 79)).alloc (.cells #[.pointer (some ⟨w.heap.size, 0, none⟩), .pointer (some ⟨w1.heap.size, 0, none⟩), .string ⟨#[]⟩] 81)) (w1.heap.size + 1) [w.heap.size, w1.heap.size]) := duo_new s1
  have K1 := hid k1
  have K2 : Hid (Keeps (fun _ => False) w1 ((w1.alloc (.cells #[.slice none 0 0, .int .i64 0, .int .i64 0, .slice none 0 0, .int .i64 0, .slice none 0 0, .slice none 0 0, .int .i64 0] 79)).alloc (.cells #[.pointer (some ⟨w.heap.size, 0, none⟩), .pointer (some ⟨w1.heap.size, 0, none⟩), .string ⟨#[]⟩] 81))) := ((Keeps.refl (fun _ => False) w1).al _).al _
  have Z2 : Hid ((((w1.alloc (.cells #[.slice none 0 0, .int .i64 0, .int .i64 0, .slice none 0 0, .int .i64 0, .slice none 0 0, .slice none 0 0, .int .i64 0] 79)).alloc (.cells #[.pointer (some ⟨w.heap.size, 0, none⟩), .pointer (some ⟨w1.heap.size, 0, none⟩), .string ⟨#[]⟩] 81)).heap).size = w1.heap.size + 2) := by show _ = _; simp
  have T2 : Hid ((((w1.alloc (.cells #[.slice none 0 0, .int .i64 0, .int .i64 0, .slice none 0 0, .int .i64 0, .slice none 0 0, .slice none 0 0, .int .i64 0] 79)).alloc (.cells #[.pointer (some ⟨w.heap.size, 0, none⟩), .pointer (some ⟨w1.heap.size, 0, none⟩), .string ⟨#[]⟩] 81)).heap)[w1.heap.size + 1]? = some (.cells #[.pointer (some ⟨w.heap.size, 0, none⟩), .pointer (some ⟨w1.heap.size, 0, none⟩), .string ⟨#[]⟩] 81 (0, 0))) := by
    have := heap_new (w1.alloc (.cells #[.slice none 0 0, .int .i64 0, .int .i64 0, .slice none 0 0, .int .i64 0, .slice none 0 0, .slice none 0 0, .int .i64 0] 79)) (.cells #[.pointer (some ⟨w.heap.size, 0, none⟩), .pointer (some ⟨w1.heap.size, 0, none⟩), .string ⟨#[]⟩] 81)
    show _ = _
    simpa using this
  clear s1 k1
  go_wp2_with fail
  generalize ((w1.alloc (.cells #[.slice none 0 0, .int .i64 0, .int .i64 0, .slice none 0 0, .int .i64 0, .slice none 0 0, .slice none 0 0, .int .i64 0] 79)).alloc (.cells #[.pointer (some ⟨w.heap.size, 0, none⟩), .pointer (some ⟨w1.heap.size, 0, none⟩), .string ⟨#[]⟩] 81)) = w2 at *
  refine (HNEW.out _).mono ?_
  rintro e w3 ⟨rfl, s3, k3⟩
  have z3 : w2.heap.size < w3.heap.size := s3.lt _ (by simp)
  have D3 : Hid (Duo 0 ((w3.alloc (.cells #[.slice none 0 0, .int .i64 0, .int .i64 0, .slice none 0 0, .int .i64 0, .slice none 0 0, .slice none 0 0, .int .i64 0] 79)).alloc (.cells #[.pointer (some ⟨w2.heap.size, 0, none⟩), .pointer (some ⟨w3.heap.size, 0, none⟩), .string ⟨#[]⟩] 81)) (w3.heap.size + 1) [w2.heap.size, w3.heap.size]) := duo_new s3
  have K3 := hid k3
  have K4 : Hid (Keeps (fun _ => False) w3 ((w3.alloc (.cells #[.slice none 0 0, .int .i64 0, .int .i64 0, .slice none 0 0, .int .i64 0, .slice none 0 0, .slice none 0 0, .int .i64 0] 79)).alloc (.cells #[.pointer (some ⟨w2.heap.size, 0, none⟩), .pointer (some ⟨w3.heap.size, 0, none⟩), .string ⟨#[]⟩] 81))) := ((Keeps.refl (fun _ => False) w3).al _).al _
  have Z4 : Hid ((((w3.alloc (.cells #[.slice none 0 0, .int .i64 0, .int .i64 0, .slice none 0 0, .int .i64 0, .slice none 0 0, .slice none 0 0, .int .i64 0] 79)).alloc (.cells #[.pointer (some ⟨w2.heap.size, 0, none⟩), .pointer (some ⟨w3.heap.size, 0, none⟩), .string ⟨#[]⟩] 81)).heap).size = w3.heap.size + 2) := by show _ = _; simp
  have T4 : Hid ((((w3.alloc (.cells #[.slice none 0 0, .int .i64 0, .int .i64 0, .slice none 0 0, .int .i64 0, .slice none 0 0, .slice none 0 0, .int .i64 0] 79)).alloc (.cells #[.pointer (some ⟨w2.heap.size, 0, none⟩), .pointer (some ⟨w3.heap.size, 0, none⟩), .string ⟨#[]⟩] 81)).heap)[w3.heap.size + 1]? = some (.cells #[.pointer (some ⟨w2.heap.size, 0, none⟩), .pointer (some ⟨w3.heap.size, 0, none⟩), .string ⟨#[]⟩] 81 (0, 0))) := by
    have := heap_new (w3.alloc (.cells #[.slice none 0 0, .int .i64 0, .int .i64 0, .slice none 0 0, .int .i64 0, .slice none 0 0, .slice none 0 0, .int .i64 0] 79)) (.cells #[.pointer (some ⟨w2.heap.size, 0, none⟩), .pointer (some ⟨w3.heap.size, 0, none⟩), .string ⟨#[]⟩] 81)
    show _ = _
    simpa using this
  clear s3 k3
  go_upto_region 3 with fail
  generalize ((w3.alloc (.cells #[.slice none 0 0, .int .i64 0, .int .i64 0, .slice none 0 0, .int .i64 0, .slice none 0 0, .slice none 0 0, .int .i64 0] 79)).alloc (.cells #[.pointer (some ⟨w2.heap.size, 0, none⟩), .pointer (some ⟨w3.heap.size, 0, none⟩), .string ⟨#[]⟩] 81)) = w4 at *
  have y0 : w4.cell? ⟨w1.heap.size + 1, 0, none⟩ = some (.pointer (some ⟨w.heap.size, 0, none⟩)) := K4.out.cell (K3.out.cell (cell_of_heap T2.out 0) (fun h => h)) (fun h => h)
  have y1 : w4.cell? ⟨w3.heap.size + 1, 0, none⟩ = some (.pointer (some ⟨w2.heap.size, 0, none⟩)) := cell_of_heap T4.out 0
  have HT := hid (trio_new D1.out z1 Z2.out K3.out z3 D3.out Z4.out K4.out)
  have HK5 : Hid (Keeps (fun _ => False) w (w4.alloc (.cells #[.slice none 0 0, .slice none 0 0, .slice none 0 0, .slice none 0 0, .int .i64 0] 31))) := ((((K1.out.tr K2.out (fun _ h => h)).tr K3.out (fun _ h => h)).tr K4.out (fun _ h => h)).al _)
  clear D1 D3 K1 K2 K3 K4 Z2 Z4 T2 T4
  go_wp2_with fail
  generalize w4.alloc (.cells #[.slice none 0 0, .slice none 0 0, .slice none 0 0, .slice none 0 0, .int .i64 0] 31) = w5 at *
  generalize w4.heap.size = bb at *
  clear y0 y1
  go_loopw [5, 6, 8] (fun p q i wr => ∃ k : Nat, k ≤ len ∧ PlayAt w bb k p q i wr) (fun _ _ i _ => len - (intOf i).toNat)
  case atStart => exact ⟨0, Nat.zero_le _, _, _, rfl, rfl, rfl, by simpa using HT.out, HK5.out⟩
  case round =>
    obtain ⟨k, hk, pb, qb, rfl, rfl, rfl, htr, hkr⟩ := hrel
    have HTR := hid htr
    have HKR := hid hkr
    clear htr hkr HT HK5 HNEW z1 z3
    by_cases hlt : k < len
    · obtain ⟨b, off, rfl, hop⟩ := HOPS.out.kept HKR.out k hlt
      generalize S k = s at *
      obtain ⟨ok, on, om, okey, oval, fu, ta, tl, tc, sf, s1, s2, ra, rl, rc⟩ := s
      obtain ⟨c0, c1, c2, c3, c4, c5, c6, c7, c8, c9, c10, bk, bm, bkey, bval⟩ := hop
      simp only at c0 c1 c2 c3 c4 c5 c6 c7 c8 c9 c10 bk bm bkey bval
      have HLK : Hid (∀ W, Keeps (fun _ => False) wr W → Calls Tryz.prog 12 #[.pointer (some ⟨bb, 0, none⟩)] W fun e w' => e = .returned (.bool true) ∧ Keeps (fun _ => False) W w') := fun W hW => by
        obtain ⟨G, hG⟩ := (HTR.out.kept hW).book
        have := HL.out
        exact looks_any W hG (by omega)
      by_cases h8 : ok = 8
      · subst h8
        clear bk bm bkey bval
        go_wp2_with (go_at_call 12; go_must (refine (HLK.out _ ((Keeps.refl _ _).al _)).mono ?_; rintro e w6 ⟨rfl, k6⟩; have HK6 := hid k6; clear k6))
        have hk6 : Keeps (fun _ => False) wr w6 := ((Keeps.refl _ _).al _).tr HK6.out (fun _ h => h)
        exact ⟨⟨k + 1, by omega, qb, pb, rfl, rfl, by go_num, (HTR.out.swap.kept hk6).more (by omega) (by omega), HKR.out.tr hk6 (fun _ h => h)⟩, by simp only [intOf]; omega⟩
      · by_cases hhi : ok ≤ hi
        · have HST : Hid (∀ W, Keeps (fun _ => False) wr W → Calls Tryz.prog 29 #[.pointer (some ⟨pb, 0, none⟩), .pointer (some ⟨bb, 0, none⟩), .agg #[.int .i64 ok, .int .i64 on, .int .i64 om, .string okey, .string oval, .bool fu, .slice ta tl tc, .bool sf, .int .i64 s1, .int .i64 s2, .slice ra rl rc]] W fun e w' => e = .returned (.bool true) ∧ Trio w.heap.size (k * 1000 + 1000) (k + 1) w' pb qb bb ∧ Keeps (fun _ => False) w w') := fun W hW =>
            (HTR.out.kept hW).step (Nat.le_refl _) (HKR.out.tr hW (fun _ h => h)) (fun F1 G hb => step_any ok on om okey oval _ _ _ _ _ _ W hb (by have := HL.out; omega) (by have := HL.out; omega) bkey bval bm (by omega))
          clear bk bm bkey bval HLK
          go_wp2_with (first
            | (go_at_call 29; go_must (refine (HST.out _ ((Keeps.refl _ _).al _)).mono ?_; rintro e w6 ⟨rfl, t6, k6⟩; have HT6 := hid t6; have HK6 := hid k6; clear t6 k6))
            | (go_at_call 12; go_must (obtain ⟨G6, hG6⟩ := HT6.out.book; have HG6 := hid hG6; clear hG6; refine (looks_any _ HG6.out (by have := HL.out; omega)).mono ?_; rintro e w7 ⟨rfl, k7⟩; have HK7 := hid k7; clear k7)))
          exact ⟨⟨k + 1, by omega, pb, qb, rfl, rfl, by go_num, (HT6.out.kept HK7.out).more (by omega) (by omega), HK6.out.tr HK7.out (fun _ h => h)⟩, by simp only [intOf]; omega⟩
        · clear bk bm bkey bval
          go_wp2_with (go_at_call 12; go_must (refine (HLK.out _ ((Keeps.refl _ _).al _)).mono ?_; rintro e w6 ⟨rfl, k6⟩; have HK6 := hid k6; clear k6))
          have hk6 : Keeps (fun _ => False) wr w6 := ((Keeps.refl _ _).al _).tr HK6.out (fun _ h => h)
          exact ⟨⟨k + 1, by omega, pb, qb, rfl, rfl, by go_num, (HTR.out.kept hk6).more (by omega) (by omega), HKR.out.tr hk6 (fun _ h => h)⟩, by simp only [intOf]; omega⟩
    · have HA1 : Hid (Calls Tryz.prog 30 #[.pointer (some ⟨pb, 0, none⟩), .pointer (some ⟨bb, 0, none⟩)] wr fun e w' => e = .returned (.bool true) ∧ Trio w.heap.size (k * 1000 + 1000) (k + 1) w' pb qb bb ∧ Keeps (fun _ => False) w w') :=
        HTR.out.step (Nat.le_refl _) HKR.out (fun F1 G hb => asked_any wr hb (by have := HL.out; omega) (by have := HL.out; omega))
      clear HTR HKR HOPS
      go_wp2_with fail
      refine (HA1.out).mono ?_
      rintro e w6 ⟨rfl, t6, k6⟩
      have HA2 : Hid (Calls Tryz.prog 30 #[.pointer (some ⟨qb, 0, none⟩), .pointer (some ⟨bb, 0, none⟩)] w6 fun e w' => e = .returned (.bool true) ∧ Trio w.heap.size (k * 1000 + 1000 + 1000) (k + 1 + 1) w' qb pb bb ∧ Keeps (fun _ => False) w w') :=
        t6.swap.step (Nat.le_refl _) k6 (fun F1 G hb => asked_any w6 hb (by have := HL.out; omega) (by have := HL.out; omega))
      clear t6 k6 HA1
      go_wp2_with fail
      refine (HA2.out).mono ?_
      rintro e w7 ⟨rfl, t7, k7⟩
      have HT7 := hid t7
      have HK7 := hid k7
      clear t7 k7 HA2
      go_wp2_with fail
      go_ret
      exact ⟨rfl, HK7.out⟩

end Go.Proofs.YtfcocbcihhdbkaaGreatDoor
