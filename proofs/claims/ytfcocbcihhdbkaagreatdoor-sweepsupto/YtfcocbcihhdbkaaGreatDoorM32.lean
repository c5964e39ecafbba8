import Derived.Test.YtfcocbcihhdbkaaGreatDoorM31

/- past: Pin, Unpin, Sweep, Look of both. -/
namespace Go.Proofs.YtfcocbcihhdbkaaGreatDoor
open Go.RowKit Go.Shelf

set_option maxRecDepth 100000 in
set_option maxHeartbeats 2000000 in
theorem past_pin {N K pb bb : Nat} {Fs G : List Nat} (n mm : Int) (key val : ByteArray) (x5 x6 x7 x8 x9 x10 : Value) (w : World) (h : Both N K w pb bb Fs G) (hN : N ≤ 10000000000) :
    Calls Tryz.prog 74 #[.pointer (some ⟨pb, 0, none⟩), .agg #[.int .i64 9, .int .i64 n, .int .i64 mm, .string key, .string val, x5, x6, x7, x8, x9, x10]] w fun e w' => e = .returned (.bool true) ∧ BothAfter (N + 1000) K pb bb Fs G w w' := by
  have HH := hid h
  obtain ⟨xb, yb, tx, A, B, FG, FF, hp, h2, hpn, rfl⟩ := id h.duo
  have HLT := hid h.duo.lt
  have HD := hid (fun W (hW : Keeps (fun _ => False) w W) => duet_pin ((hW.block pb (Array.getElem?_eq_some_iff.1 hp).1 (fun h => h)).trans hp) hpn (h2.kept hW (fun _ _ h => h)) hN n)
  have HS := hid (fun W (hW : Keeps (· ∈ FG ++ FF) (w.alloc (.cells #[.int .i64 9, .int .i64 n, .int .i64 mm, .string key, .string val, x5, x6, x7, x8, x9, x10] 72)) W) => step_at hp hpn (fun j hj => HLT.out j (List.mem_cons_of_mem _ hj)) hW)
  obtain ⟨c0, c1, c2, c3, c4, c5⟩ := HS.out _ (Keeps.refl _ _)
  have HNU := hid (fun W => num_any (A.pinR n) W)
  generalize A.pinR n = r1 at *
  clear h hp h2 hpn hN
  go_enter Tryz.func74, Tryz.ntmps74
  go_wp2_with fail
  go_region_held3 (fun W => W.cell? ⟨pb, 0, none⟩ = some (.pointer (some ⟨xb, 0, none⟩)) ∧ W.cell? ⟨pb, 1, none⟩ = some (.pointer (some ⟨yb, 0, none⟩)) ∧ W.cell? ⟨w.heap.size, 1, none⟩ = some (.int .i64 n)) (go_keep) (first | (go_at_call 18; refine (HD.out _ ((Keeps.refl _ _).al _).dr).mono ?_; rintro e w1 ⟨rfl, k1, hy⟩; have HY := hid hy; have HK1 := hid ((Keeps.drew (· ∈ FG ++ FF) _).tr k1 (fun _ h => h)); obtain ⟨d0, d1, d2, d3, d4, d5⟩ := HS.out _ HK1.out; clear hy k1))
  clear c0 c1 c2 c3 c4 c5
  go_wp2_with fail
  go_region_held3 (fun W => W.cell? ⟨pb, 1, none⟩ = some (.pointer (some ⟨yb, 0, none⟩)) ∧ W.cell? ⟨w.heap.size, 1, none⟩ = some (.int .i64 n)) (go_keep) (first
    | (go_at_call 35; refine (HNU.out _).mono ?_; rintro e w2 ⟨rfl, rfl⟩)
    | (go_at_call 130; refine (HY.out _ (Keeps.drew _ _)).mono ?_; rintro e w3 ⟨rfl, k3, hd⟩; have HDD := hid hd; obtain ⟨e0, e1, e2, e3, e4, e5⟩ := HS.out _ ((Keeps.drew (· ∈ FG ++ FF) _).tr k3 (fun _ h => h)); clear hd k3))
  go_wp2
  go_ret
  refine ⟨rfl, ?_⟩
  exact ((HH.out.kept ((Keeps.refl _ _).al _).dr).duoAfter HDD.out).pre ((Keeps.refl _ _).al _).dr

set_option maxRecDepth 100000 in
set_option maxHeartbeats 2000000 in
theorem past_unpin {N K pb bb : Nat} {Fs G : List Nat} (n mm : Int) (key val : ByteArray) (x5 x6 x7 x8 x9 x10 : Value) (w : World) (h : Both N K w pb bb Fs G) (hN : N ≤ 10000000000) :
    Calls Tryz.prog 74 #[.pointer (some ⟨pb, 0, none⟩), .agg #[.int .i64 10, .int .i64 n, .int .i64 mm, .string key, .string val, x5, x6, x7, x8, x9, x10]] w fun e w' => e = .returned (.bool true) ∧ BothAfter (N + 1000) K pb bb Fs G w w' := by
  have HH := hid h
  obtain ⟨xb, yb, tx, A, B, FG, FF, hp, h2, hpn, rfl⟩ := id h.duo
  have HLT := hid h.duo.lt
  have HD := hid (fun W (hW : Keeps (fun _ => False) w W) => duet_unpin ((hW.block pb (Array.getElem?_eq_some_iff.1 hp).1 (fun h => h)).trans hp) hpn (h2.kept hW (fun _ _ h => h)) hN n)
  have HS := hid (fun W (hW : Keeps (· ∈ FG ++ FF) (w.alloc (.cells #[.int .i64 10, .int .i64 n, .int .i64 mm, .string key, .string val, x5, x6, x7, x8, x9, x10] 72)) W) => step_at hp hpn (fun j hj => HLT.out j (List.mem_cons_of_mem _ hj)) hW)
  obtain ⟨c0, c1, c2, c3, c4, c5⟩ := HS.out _ (Keeps.refl _ _)
  have HNU := hid (fun W => num_any (A.unpinR n) W)
  generalize A.unpinR n = r1 at *
  clear h hp h2 hpn hN
  go_enter Tryz.func74, Tryz.ntmps74
  go_wp2_with fail
  go_region_held3 (fun W => W.cell? ⟨pb, 0, none⟩ = some (.pointer (some ⟨xb, 0, none⟩)) ∧ W.cell? ⟨pb, 1, none⟩ = some (.pointer (some ⟨yb, 0, none⟩)) ∧ W.cell? ⟨w.heap.size, 1, none⟩ = some (.int .i64 n)) (go_keep) (first | (go_at_call 26; refine (HD.out _ ((Keeps.refl _ _).al _).dr).mono ?_; rintro e w1 ⟨rfl, k1, hy⟩; have HY := hid hy; have HK1 := hid ((Keeps.drew (· ∈ FG ++ FF) _).tr k1 (fun _ h => h)); obtain ⟨d0, d1, d2, d3, d4, d5⟩ := HS.out _ HK1.out; clear hy k1))
  clear c0 c1 c2 c3 c4 c5
  go_wp2_with fail
  go_region_held3 (fun W => W.cell? ⟨pb, 1, none⟩ = some (.pointer (some ⟨yb, 0, none⟩)) ∧ W.cell? ⟨w.heap.size, 1, none⟩ = some (.int .i64 n)) (go_keep) (first
    | (go_at_call 35; refine (HNU.out _).mono ?_; rintro e w2 ⟨rfl, rfl⟩)
    | (go_at_call 131; refine (HY.out _ (Keeps.drew _ _)).mono ?_; rintro e w3 ⟨rfl, k3, hd⟩; have HDD := hid hd; obtain ⟨e0, e1, e2, e3, e4, e5⟩ := HS.out _ ((Keeps.drew (· ∈ FG ++ FF) _).tr k3 (fun _ h => h)); clear hd k3))
  go_wp2
  go_ret
  refine ⟨rfl, ?_⟩
  exact ((HH.out.kept ((Keeps.refl _ _).al _).dr).duoAfter HDD.out).pre ((Keeps.refl _ _).al _).dr

set_option maxRecDepth 100000 in
set_option maxHeartbeats 2000000 in
theorem past_sweep {N K pb bb : Nat} {Fs G : List Nat} (n mm : Int) (key val : ByteArray) (x5 x6 x7 x8 x9 x10 : Value) (w : World) (h : Both N K w pb bb Fs G) (hN : N ≤ 10000000000) :
    Calls Tryz.prog 74 #[.pointer (some ⟨pb, 0, none⟩), .agg #[.int .i64 11, .int .i64 n, .int .i64 mm, .string key, .string val, x5, x6, x7, x8, x9, x10]] w fun e w' => e = .returned (.bool true) ∧ BothAfter (N + 1000) K pb bb Fs G w w' := by
  have HH := hid h
  obtain ⟨xb, yb, tx, A, B, FG, FF, hp, h2, hpn, rfl⟩ := id h.duo
  have HLT := hid h.duo.lt
  have HD := hid (fun W (hW : Keeps (fun _ => False) w W) => duet_sweep ((hW.block pb (Array.getElem?_eq_some_iff.1 hp).1 (fun h => h)).trans hp) hpn (h2.kept hW (fun _ _ h => h)) hN)
  have HS := hid (fun W (hW : Keeps (· ∈ FG ++ FF) (w.alloc (.cells #[.int .i64 11, .int .i64 n, .int .i64 mm, .string key, .string val, x5, x6, x7, x8, x9, x10] 72)) W) => step_at hp hpn (fun j hj => HLT.out j (List.mem_cons_of_mem _ hj)) hW)
  obtain ⟨c0, c1, c2, c3, c4, c5⟩ := HS.out _ (Keeps.refl _ _)
  generalize A.sweepR = r1 at *
  clear h hp h2 hpn hN
  go_enter Tryz.func74, Tryz.ntmps74
  go_wp2_with fail
  go_region_held3 (fun W => W.cell? ⟨pb, 0, none⟩ = some (.pointer (some ⟨xb, 0, none⟩)) ∧ W.cell? ⟨pb, 1, none⟩ = some (.pointer (some ⟨yb, 0, none⟩))) (go_keep) (first
    | (go_at_call 25; refine (HD.out _ ((Keeps.refl _ _).al _).dr).mono ?_; rintro e w1 ⟨rfl, k1, hy⟩; have HY := hid hy; have HK1 := hid ((Keeps.drew (· ∈ FG ++ FF) _).tr k1 (fun _ h => h)); obtain ⟨d0, d1, d2, d3, d4, d5⟩ := HS.out _ HK1.out; clear hy k1)
    | (go_at_call 132; refine (HY.out _ (Keeps.refl _ _)).mono ?_; rintro e w3 ⟨rfl, k3, hd⟩; have HDD := hid hd; obtain ⟨e0, e1, e2, e3, e4, e5⟩ := HS.out _ ((Keeps.drew (· ∈ FG ++ FF) _).tr k3 (fun _ h => h)); clear hd k3))
  go_wp2
  go_ret
  refine ⟨rfl, ?_⟩
  exact ((HH.out.kept ((Keeps.refl _ _).al _).dr).duoAfter HDD.out).pre ((Keeps.refl _ _).al _).dr

set_option maxRecDepth 100000 in
set_option maxHeartbeats 2000000 in
theorem past_look {N K pb bb : Nat} {Fs G : List Nat} (n mm : Int) (key val : ByteArray) (x5 x6 x7 x8 x9 x10 : Value) (w : World) (h : Both N K w pb bb Fs G) (hN : N ≤ 10000000000) :
    Calls Tryz.prog 74 #[.pointer (some ⟨pb, 0, none⟩), .agg #[.int .i64 12, .int .i64 n, .int .i64 mm, .string key, .string val, x5, x6, x7, x8, x9, x10]] w fun e w' => e = .returned (.bool true) ∧ BothAfter (N + 1000) K pb bb Fs G w w' := by
  have HH := hid h
  obtain ⟨xb, yb, tx, A, B, FG, FF, hp, h2, hpn, rfl⟩ := id h.duo
  have HLT := hid h.duo.lt
  have HD := hid (fun W (hW : Keeps (fun _ => False) w W) => duet_look ((hW.block pb (Array.getElem?_eq_some_iff.1 hp).1 (fun h => h)).trans hp) hpn (h2.kept hW (fun _ _ h => h)) hN)
  have HS := hid (fun W (hW : Keeps (· ∈ FG ++ FF) (w.alloc (.cells #[.int .i64 12, .int .i64 n, .int .i64 mm, .string key, .string val, x5, x6, x7, x8, x9, x10] 72)) W) => step_at hp hpn (fun j hj => HLT.out j (List.mem_cons_of_mem _ hj)) hW)
  obtain ⟨c0, c1, c2, c3, c4, c5⟩ := HS.out _ (Keeps.refl _ _)
  unfold lookVal at HD
  generalize A.now = r1 at *
  generalize A.floor = r2 at *
  generalize (A.works.length : Int) = r3 at *
  generalize A.pinSum = r4 at *
  generalize (A.total : Int) = r5 at *
  generalize (A.copyings.length : Int) = r6 at *
  clear h hp h2 hpn hN
  go_enter Tryz.func74, Tryz.ntmps74
  go_wp2_with fail
  go_region_held3 (fun W => W.cell? ⟨pb, 0, none⟩ = some (.pointer (some ⟨xb, 0, none⟩)) ∧ W.cell? ⟨pb, 1, none⟩ = some (.pointer (some ⟨yb, 0, none⟩))) (go_keep) (first
    | (go_at_call 17; refine (HD.out _ ((Keeps.refl _ _).al _).dr).mono ?_; rintro e w1 ⟨rfl, k1, hy⟩; have HY := hid hy; have HK1 := hid ((Keeps.drew (· ∈ FG ++ FF) _).tr k1 (fun _ h => h)); obtain ⟨d0, d1, d2, d3, d4, d5⟩ := HS.out _ HK1.out; clear hy k1)
    | (go_at_call 31; refine (HY.out _ (Keeps.refl _ _)).mono ?_; rintro e w3 ⟨rfl, k3, hd⟩; have HDD := hid hd; obtain ⟨e0, e1, e2, e3, e4, e5⟩ := HS.out _ ((Keeps.drew (· ∈ FG ++ FF) _).tr k3 (fun _ h => h)); clear hd k3))
  go_wp2
  go_ret
  refine ⟨rfl, ?_⟩
  exact ((HH.out.kept ((Keeps.refl _ _).al _).dr).duoAfter HDD.out).pre ((Keeps.refl _ _).al _).dr

end Go.Proofs.YtfcocbcihhdbkaaGreatDoor

/- A step of a script: works, past, step; asked. -/
namespace Go.Proofs.YtfcocbcihhdbkaaGreatDoor
open Go.RowKit Go.Shelf

set_option maxRecDepth 100000 in
set_option maxHeartbeats 1000000 in
theorem works_scan {N K pb bb : Nat} {Fs G : List Nat} (n mm : Int) (key val : ByteArray) (x5 x6 x7 x8 x9 x10 : Value) (w : World) (h : Both N K w pb bb Fs G) (hN : N ≤ 10000000000) (hK : K ≤ 10000000000) (hk : key.size ≤ maxLen) (hm : -9223372036854775808 ≤ mm ∧ mm ≤ 9223372036854775807) :
    Calls Tryz.prog 73 #[.pointer (some ⟨pb, 0, none⟩), .pointer (some ⟨bb, 0, none⟩), .agg #[.int .i64 5, .int .i64 n, .int .i64 mm, .string key, .string val, x5, x6, x7, x8, x9, x10]] w fun e w' => e = .returned (.bool true) ∧ BothAfter N (K + 1) pb bb Fs G w w' := by
  have HC := hid (fun W (hW : Keeps (fun _ => False) w W) => pscan_any n key mm W (h.kept hW) hN hK hk hm)
  clear h hN hK hk hm
  go_enter Tryz.func73, Tryz.ntmps73
  go_wp2_with (go_at_call 77; go_must (refine (HC.out _ ((Keeps.refl _ _).al _)).mono ?_; rintro e w1 ⟨rfl, hb⟩; have HB := hid hb; clear hb))
  go_ret
  exact ⟨rfl, HB.out.pre ((Keeps.refl _ _).al _)⟩

/-- what a step leaves -/
def StepPost (N K pb bb : Nat) (Fs G : List Nat) (w : World) (e : Ending) (w' : World) : Prop := e = .returned (.bool true) ∧ BothAfter (N + 1000) (K + 1) pb bb Fs G w w'

theorem works_any {N K pb bb : Nat} {Fs G : List Nat} (k n mm : Int) (key val : ByteArray) (x5 x6 x7 x8 x9 x10 : Value) (w : World) (h : Both N K w pb bb Fs G) (hN : N ≤ 10000000000) (hK : K ≤ 10000000000) (hk : key.size ≤ maxLen) (hv : val.size ≤ maxLen) (hm : -9223372036854775808 ≤ mm ∧ mm ≤ 9223372036854775807) (h1 : 1 ≤ k) (h7 : k ≤ 7) :
    Calls Tryz.prog 73 #[.pointer (some ⟨pb, 0, none⟩), .pointer (some ⟨bb, 0, none⟩), .agg #[.int .i64 k, .int .i64 n, .int .i64 mm, .string key, .string val, x5, x6, x7, x8, x9, x10]] w (StepPost N K pb bb Fs G w) := by
  have hc : k = 1 ∨ k = 2 ∨ k = 3 ∨ k = 4 ∨ k = 5 ∨ k = 6 ∨ k = 7 := by omega
  rcases hc with rfl | rfl | rfl | rfl | rfl | rfl | rfl
  · exact (works_begin n mm key val x5 x6 x7 x8 x9 x10 w h hN).mono fun e w' hh => ⟨hh.1, hh.2.more (by omega) (by omega)⟩
  · exact (works_get n mm key val x5 x6 x7 x8 x9 x10 w h hN hk).mono fun e w' hh => ⟨hh.1, hh.2.more (by omega) (by omega)⟩
  · exact (works_put n mm key val x5 x6 x7 x8 x9 x10 w h hN hk hv).mono fun e w' hh => ⟨hh.1, hh.2.more (by omega) (by omega)⟩
  · exact (works_delete n mm key val x5 x6 x7 x8 x9 x10 w h hN hk).mono fun e w' hh => ⟨hh.1, hh.2.more (by omega) (by omega)⟩
  · exact (works_scan n mm key val x5 x6 x7 x8 x9 x10 w h hN hK hk hm).mono fun e w' hh => ⟨hh.1, hh.2.more (by omega) (by omega)⟩
  · exact (works_commit n mm key val x5 x6 x7 x8 x9 x10 w h hN).mono fun e w' hh => ⟨hh.1, hh.2.more (by omega) (by omega)⟩
  · exact (works_abort n mm key val x5 x6 x7 x8 x9 x10 w h hN).mono fun e w' hh => ⟨hh.1, hh.2.more (by omega) (by omega)⟩

theorem past_any {N K pb bb : Nat} {Fs G : List Nat} (k n mm : Int) (key val : ByteArray) (x5 x6 x7 x8 x9 x10 : Value) (w : World) (h : Both N K w pb bb Fs G) (hN : N ≤ 10000000000) (h1 : 9 ≤ k) (h7 : k ≤ 12) :
    Calls Tryz.prog 74 #[.pointer (some ⟨pb, 0, none⟩), .agg #[.int .i64 k, .int .i64 n, .int .i64 mm, .string key, .string val, x5, x6, x7, x8, x9, x10]] w (StepPost N K pb bb Fs G w) := by
  have hc : k = 9 ∨ k = 10 ∨ k = 11 ∨ k = 12 := by omega
  rcases hc with rfl | rfl | rfl | rfl
  · exact (past_pin n mm key val x5 x6 x7 x8 x9 x10 w h hN).mono fun e w' hh => ⟨hh.1, hh.2.more (by omega) (by omega)⟩
  · exact (past_unpin n mm key val x5 x6 x7 x8 x9 x10 w h hN).mono fun e w' hh => ⟨hh.1, hh.2.more (by omega) (by omega)⟩
  · exact (past_sweep n mm key val x5 x6 x7 x8 x9 x10 w h hN).mono fun e w' hh => ⟨hh.1, hh.2.more (by omega) (by omega)⟩
  · exact (past_look n mm key val x5 x6 x7 x8 x9 x10 w h hN).mono fun e w' hh => ⟨hh.1, hh.2.more (by omega) (by omega)⟩

theorem StepPost.pre {N K pb bb : Nat} {Fs G : List Nat} {w0 w w' : World} {e : Ending} (hk : Keeps (fun _ => False) w0 w) (h : StepPost N K pb bb Fs G w e w') : StepPost N K pb bb Fs G w0 e w' := ⟨h.1, h.2.pre hk⟩

theorem Both.same {N K pb bb : Nat} {Fs G : List Nat} {w w' : World} (h : Both N K w pb bb Fs G) (hk : Keeps (fun _ => False) w w') : BothAfter (N + 1000) (K + 1) pb bb Fs G w w' :=
  ⟨Fs, G, (h.kept hk).more (by omega) (by omega), hk.mono (fun _ _ h => h.elim), fun _ h => .inl h, fun _ h => .inl h⟩

set_option maxRecDepth 100000 in
set_option maxHeartbeats 2000000 in
theorem step_any {N K pb bb : Nat} {Fs G : List Nat} (k n mm : Int) (key val : ByteArray) (x5 x6 x7 x8 x9 x10 : Value) (w : World) (h : Both N K w pb bb Fs G) (hN : N ≤ 10000000000) (hK : K ≤ 10000000000) (hk : key.size ≤ maxLen) (hv : val.size ≤ maxLen) (hm : -9223372036854775808 ≤ mm ∧ mm ≤ 9223372036854775807) (h12 : k ≤ 12) :
    Calls Tryz.prog 29 #[.pointer (some ⟨pb, 0, none⟩), .pointer (some ⟨bb, 0, none⟩), .agg #[.int .i64 k, .int .i64 n, .int .i64 mm, .string key, .string val, x5, x6, x7, x8, x9, x10]] w (StepPost N K pb bb Fs G w) := by
  by_cases hw : 1 ≤ k ∧ k ≤ 7
  · obtain ⟨h1, h7⟩ := hw
    have HC := hid (fun W (hW : Keeps (fun _ => False) w W) => works_any k n mm key val x5 x6 x7 x8 x9 x10 W (h.kept hW) hN hK hk hv hm h1 h7)
    clear h hN hK hk hv hm
    go_enter Tryz.func29, Tryz.ntmps29
    go_wp2_with (go_at_call 73; go_must (refine (HC.out _ ((Keeps.refl _ _).al _)).mono ?_; rintro e w1 ⟨rfl, hb⟩; have HB := hid hb; clear hb))
    go_ret
    exact ⟨rfl, HB.out.pre ((Keeps.refl _ _).al _)⟩
  · by_cases hp : 9 ≤ k
    · have HC := hid (fun W (hW : Keeps (fun _ => False) w W) => past_any k n mm key val x5 x6 x7 x8 x9 x10 W (h.kept hW) hN hp h12)
      have n7 : ¬ k ≤ 7 := by omega
      clear h hN hK hk hv hm hw
      go_enter Tryz.func29, Tryz.ntmps29
      go_wp2_with (go_at_call 74; go_must (refine (HC.out _ ((Keeps.refl _ _).al _)).mono ?_; rintro e w1 ⟨rfl, hb⟩; have HB := hid hb; clear hb))
      go_ret
      exact ⟨rfl, HB.out.pre ((Keeps.refl _ _).al _)⟩
    · have HH := hid h
      have hc : k ≤ 0 ∨ k = 8 := by omega
      clear h hN hK hk hv hm hw
      rcases hc with hc | rfl
      · go_enter Tryz.func29, Tryz.ntmps29
        go_wp2_with fail
        go_ret
        exact ⟨rfl, HH.out.same ((Keeps.refl _ _).al _)⟩
      · clear hp h12
        go_enter Tryz.func29, Tryz.ntmps29
        go_wp2_with fail
        go_ret
        exact ⟨rfl, HH.out.same ((Keeps.refl _ _).al _)⟩

set_option maxRecDepth 100000 in
set_option maxHeartbeats 1000000 in
theorem asked_any {N K pb bb : Nat} {Fs G : List Nat} (w : World) (h : Both N K w pb bb Fs G) (hN : N ≤ 9999999000) (hK : K ≤ 10000000000) :
    Calls Tryz.prog 30 #[.pointer (some ⟨pb, 0, none⟩), .pointer (some ⟨bb, 0, none⟩)] w (StepPost N K pb bb Fs G w) := by
  have HH := hid h
  obtain ⟨xb, yb, tx, A, B, FG, FF, hp, h2, hpn, rfl⟩ := id h.duo
  have t0 : w.cell? ⟨pb, 0, none⟩ = some (.pointer (some ⟨xb, 0, none⟩)) := cell_of_heap hp 0
  have HP : Hid (∀ W, Keeps (· ∈ FG ++ FF) w W → W.cell? ⟨pb, 1, none⟩ = some (.pointer (some ⟨yb, 0, none⟩))) := fun W hW => hW.cell (p := ⟨pb, 1, none⟩) (cell_of_heap hp 1) hpn
  have HD := hid (duet_begin hp hpn h2 (by omega : N ≤ 10000000000))
  have HNU := hid (fun W => num_any A.beginR.2 W)
  have HN := hid hN
  have HK := hid hK
  generalize A.beginR.1 = r1 at *
  generalize A.beginR.2 = r2 at *
  clear h hp h2 hpn hN hK
  go_enter Tryz.func30, Tryz.ntmps30
  go_wp2_with (first
    | (go_at_call 40; go_must (refine (HD.out).mono ?_; rintro e w1 ⟨rfl, k1, hy⟩; have HY := hid hy; have d1 := HP.out _ k1; clear hy))
    | (go_at_call 76; go_must (refine (HY.out _ (Keeps.refl _ _)).mono ?_; rintro e w3 ⟨rfl, k3, hd⟩; have HDD := hid (HH.out.duoAfter hd); clear hd k3 k1))
    | (go_at_call 35; go_must (refine (HNU.out _).mono ?_; rintro e w3 ⟨rfl, rfl⟩))
    | (go_at_call 77; go_must (obtain ⟨Fs', G', b1, b2, b3, b4⟩ := HDD.out; refine (pscan_any r1 ByteArray.empty (-1) _ b1 (by have := HN.out; omega) HK.out (by simp [maxLen]) (by omega)).mono ?_; rintro e w5 ⟨rfl, hb⟩; have HB := hid hb; have HQ := hid (And.intro b1 (And.intro b2 (And.intro b3 b4))); clear hb b1 b2 b3 b4)))
  go_ret
  refine ⟨rfl, ?_⟩
  obtain ⟨b1, b2, b3, b4⟩ := HQ.out
  obtain ⟨Fs2, G2, c1, c2, c3, c4⟩ := HB.out
  have hz := b2.size
  refine ⟨Fs2, G2, c1, b2.trans c2 (fun i hi hh => ?_), fun j hj => ?_, fun j hj => ?_⟩
  · rcases hh with hh | hh
    · rcases b3 i hh with h | h
      · exact .inl h
      · omega
    · rcases b4 i hh with h | h
      · exact .inr h
      · omega
  · rcases c3 j hj with h | h
    · exact b3 j h
    · exact .inr (by omega)
  · rcases c4 j hj with h | h
    · exact b4 j h
    · exact .inr (by omega)

end Go.Proofs.YtfcocbcihhdbkaaGreatDoor

/- looks: all lists hold what their owner wrote. -/
namespace Go.Proofs.YtfcocbcihhdbkaaGreatDoor
open Go.RowKit Go.Shelf

theorem Row.repAt {w : World} {g n cap : Nat} {m : ByteArray} (h : Row w 90 2 (.slice (some ⟨g, 0, none⟩) n cap) n (List.replicate (n * 2) (.string m))) {j : Nat} (hj : j < n) : w.cell? ⟨g, j * 2, none⟩ = some (.string m) ∧ w.cell? ⟨g, j * 2 + 1, none⟩ = some (.string m) := by
  constructor
  · rw [h.cellAt (j * 2) (by omega), List.getElem?_replicate, if_pos (by omega)]
  · rw [h.cellAt (j * 2 + 1) (by omega), List.getElem?_replicate, if_pos (by omega)]

set_option maxRecDepth 100000 in
set_option maxHeartbeats 2000000 in
theorem looks_any {K bb : Nat} {G : List Nat} (w : World) (h : Book K w bb G) (hK : K ≤ 10000000000) :
    Calls Tryz.prog 12 #[.pointer (some ⟨bb, 0, none⟩)] w fun e w' => e = .returned (.bool true) ∧ Keeps (fun _ => False) w w' := by
  obtain ⟨vp, vm, nx, Ls, h, rfl⟩ := h
  obtain ⟨op, cp, rfl, hmp, sp⟩ := h.pairs.form
  obtain ⟨om, cm, rfl, hmm, sm⟩ := h.marks.form
  have t0 : w.cell? ⟨bb, 0, none⟩ = some (.slice op Ls.length cp) := cell_of_heap h.top 0
  have t1 : w.cell? ⟨bb, 1, none⟩ = some (.slice om Ls.length cm) := cell_of_heap h.top 1
  have t2 : w.cell? ⟨bb, 2, none⟩ = some (.slice none 0 0) := cell_of_heap h.top 2
  have hlen := h.len
  have HB := hid h
  have SP := hid sp
  have SM := hid sm
  have hL : (Ls.length : Int) ≤ 40000000000 := by omega
  unfold maxLen at hmp hmm
  clear h sp sm hlen hK
  go_enter Tryz.func12, Tryz.ntmps12
  go_wp2_with fail
  go_loopw [3] (fun i wr => ∃ k : Nat, k ≤ Ls.length ∧ i = .int .i64 k ∧ Keeps (fun _ => False) w wr) (fun i _ => Ls.length - (intOf i).toNat)
  case atStart => exact ⟨0, Nat.zero_le _, rfl, Keeps.refl _ _⟩
  case round =>
    obtain ⟨k, hk, rfl, hkr⟩ := hrel
    have q0 := hkr.cell t0 (fun h => h)
    have q1 := hkr.cell t1 (fun h => h)
    have q2 := hkr.cell t2 (fun h => h)
    by_cases hlt : k < Ls.length
    · obtain ⟨gp, rfl⟩ := SP.out (by omega)
      obtain ⟨gm, rfl⟩ := SM.out (by omega)
      obtain ⟨p, hp⟩ : ∃ p, p = Ls[k] := ⟨_, rfl⟩
      obtain ⟨n, hn, hrow⟩ := HB.out.lists p (hp ▸ List.getElem_mem hlt)
      have d0 : w.cell? ⟨gp, k, none⟩ = some p.1 := by
        rw [HB.out.pairs.cellAt k (by omega), List.getElem?_map, List.getElem?_eq_getElem hlt, ← hp]
        rfl
      have d1 : w.cell? ⟨gm, k, none⟩ = some (.string p.2) := by
        rw [HB.out.marks.cellAt k (by omega), List.getElem?_map, List.getElem?_eq_getElem hlt, ← hp]
        rfl
      obtain ⟨ol, cl, hpl, hml, sl⟩ := hrow.form
      rw [hpl] at d0 hrow
      generalize p.2 = m at *
      have q3 := hkr.cell d0 (fun h => h)
      have HROW := hid hrow
      have SL := hid sl
      have HKR := hid hkr
      have hnI : (n : Int) ≤ 100000000000 := by omega
      have hltI : (k : Int) < Ls.length := by omega
      clear hp hpl hrow sl hkr hml
      go_wp2_with fail
      go_loopw [4] (fun i wq => ∃ j : Nat, j ≤ n ∧ i = .int .i64 j ∧ Keeps (fun _ => False) w wq) (fun i _ => n - (intOf i).toNat)
      case atStart => exact ⟨0, Nat.zero_le _, rfl, HKR.out⟩
      case round =>
        obtain ⟨j, hj, rfl, hkq⟩ := hrel
        have p0 := hkq.cell t0 (fun h => h)
        have p1 := hkq.cell t1 (fun h => h)
        have p3 := hkq.cell d0 (fun h => h)
        have p4 := hkq.cell d1 (fun h => h)
        by_cases hjn : j < n
        · obtain ⟨gl, rfl⟩ := SL.out (by omega)
          obtain ⟨y0, y1⟩ := (HROW.out.kept hkq (fun _ _ h => h)).repAt hjn
          have HKQ := hid hkq
          clear hkq q0 q1 q2 q3 t0 t1 t2 d0 d1
          go_wp2_with fail
          go_region
          go_wp2
          exact ⟨⟨j + 1, by omega, by go_num, HKQ.out.dr⟩, by simp only [intOf]; omega⟩
        · have HKQ := hid hkq
          clear hkq
          go_wp2
          exact ⟨⟨k + 1, by omega, by go_num, HKQ.out⟩, by simp only [intOf]; omega⟩
    · have HKR := hid hkr
      clear hkr
      go_wp2_with fail
      go_loopw [5] (fun i wq => i = .int .i64 0 ∧ wq = wr) (fun _ _ => 0)
      case atStart => exact ⟨rfl, rfl⟩
      case round =>
        obtain ⟨rfl, rfl⟩ := hrel
        go_wp2
        go_ret
        exact ⟨rfl, HKR.out⟩

end Go.Proofs.YtfcocbcihhdbkaaGreatDoor

/- Two pairs and a book: what plays keeps. -/
namespace Go.Proofs.YtfcocbcihhdbkaaGreatDoor
open Go.RowKit Go.Shelf

/-- two pairs and a book, apart from each other, all new since B -/
structure TrioAt (B N K : Nat) (w : World) (pb qb bb : Nat) (F1 F2 G : List Nat) : Prop where
  p : Both N K w pb bb F1 G
  q : Duo N w qb F2
  apart : ∀ k ∈ qb :: F2, k ∉ pb :: F1 ∧ k ∉ G
  newP : ∀ k ∈ pb :: F1, B ≤ k
  newQ : ∀ k ∈ qb :: F2, B ≤ k
  newG : ∀ k ∈ G, B ≤ k

def Trio (B N K : Nat) (w : World) (pb qb bb : Nat) : Prop := ∃ F1 F2 G, TrioAt B N K w pb qb bb F1 F2 G

theorem Trio.kept {B N K : Nat} {w w' : World} {pb qb bb : Nat} (h : Trio B N K w pb qb bb) (hk : Keeps (fun _ => False) w w') : Trio B N K w' pb qb bb := by
  obtain ⟨F1, F2, G, h⟩ := h
  exact ⟨F1, F2, G, h.p.kept hk, h.q.kept hk (fun _ _ h => h), h.apart, h.newP, h.newQ, h.newG⟩

theorem Trio.more {B N N' K K' : Nat} {w : World} {pb qb bb : Nat} (h : Trio B N K w pb qb bb) (hN : N ≤ N') (hK : K ≤ K') : Trio B N' K' w pb qb bb := by
  obtain ⟨F1, F2, G, h⟩ := h
  exact ⟨F1, F2, G, h.p.more hN hK, h.q.more hN, h.apart, h.newP, h.newQ, h.newG⟩

theorem Trio.swap {B N K : Nat} {w : World} {pb qb bb : Nat} (h : Trio B N K w pb qb bb) : Trio B N K w qb pb bb := by
  obtain ⟨F1, F2, G, h⟩ := h
  exact ⟨F2, F1, G, ⟨h.q, h.p.book, fun k hk => (h.apart k hk).2⟩, h.p.duo, fun k hk => ⟨fun hq => (h.apart k hq).1 hk, h.p.apart k hk⟩, h.newQ, h.newP, h.newG⟩

theorem Trio.book {B N K : Nat} {w : World} {pb qb bb : Nat} (h : Trio B N K w pb qb bb) : ∃ G, Book K w bb G := by
  obtain ⟨F1, F2, G, h⟩ := h
  exact ⟨G, h.p.book⟩

/-- the first pair has made a step -/
theorem Trio.step {B N K : Nat} {w0 w : World} {pb qb bb : Nat} {f : Nat} {args : Array Value} (h : Trio B N K w pb qb bb) (hB : w0.heap.size ≤ B) (h0 : Keeps (fun _ => False) w0 w) (hs : ∀ F1 G, Both N K w pb bb F1 G → Calls Tryz.prog f args w (StepPost N K pb bb F1 G w)) :
    Calls Tryz.prog f args w fun e w' => e = .returned (.bool true) ∧ Trio B (N + 1000) (K + 1) w' pb qb bb ∧ Keeps (fun _ => False) w0 w' := by
  obtain ⟨F1, F2, G, h⟩ := h
  refine (hs F1 G h.p).mono ?_
  rintro e w' ⟨rfl, F1', G', b1, b2, b3, b4⟩
  have hz0 := h0.size
  have hq := h.q.lt
  have hBw : B ≤ w.heap.size := by
    have := h.newP pb (by simp)
    have := h.p.duo.lt pb (by simp)
    omega
  refine ⟨rfl, ⟨F1', F2, G', b1, (h.q.kept b2 (fun k hk hh => ?_)).more (by omega), fun k hk => ⟨fun hp => ?_, fun hg => ?_⟩, fun k hk => ?_, h.newQ, fun k hk => ?_⟩, h0.trans b2 (fun i hi hh => ?_)⟩
  · rcases hh with hh | hh
    · exact (h.apart k hk).1 (List.mem_cons_of_mem _ hh)
    · exact (h.apart k hk).2 hh
  · rcases List.mem_cons.1 hp with rfl | hp
    · exact (h.apart _ hk).1 (by simp)
    · rcases b3 k hp with h1 | h1
      · exact (h.apart k hk).1 (List.mem_cons_of_mem _ h1)
      · have := hq k hk
        omega
  · rcases b4 k hg with h1 | h1
    · exact (h.apart k hk).2 h1
    · have := hq k hk
      omega
  · rcases List.mem_cons.1 hk with rfl | hk
    · exact h.newP _ (by simp)
    · rcases b3 k hk with h1 | h1
      · exact h.newP k (List.mem_cons_of_mem _ h1)
      · omega
  · rcases b4 k hk with h1 | h1
    · exact h.newG k h1
    · omega
  · rcases hh with hh | hh
    · have := h.newP i (List.mem_cons_of_mem _ hh)
      omega
    · have := h.newG i hh
      omega

/-- a pair that was just made -/
theorem duo_new {w1 : World} {b1 : Nat} (h : GSt 0 w1 b1 Gst.zero [b1]) :
    Duo 0 ((w1.alloc (.cells (RRep.zero w1.heap.size).top 79)).alloc (.cells (pairTop b1 w1.heap.size ⟨#[]⟩) 81)) (w1.heap.size + 1) [b1, w1.heap.size] := by
  have lb := h.lt b1 (by simp)
  have e1 : ((w1.alloc (.cells (RRep.zero w1.heap.size).top 79)).alloc (.cells (pairTop b1 w1.heap.size ⟨#[]⟩) 81)).heap[w1.heap.size + 1]? = some (.cells (pairTop b1 w1.heap.size ⟨#[]⟩) 81 (0, 0)) := by
    have := heap_new (w1.alloc (.cells (RRep.zero w1.heap.size).top 79)) (.cells (pairTop b1 w1.heap.size ⟨#[]⟩) 81)
    simpa using this
  have e2 : ((w1.alloc (.cells (RRep.zero w1.heap.size).top 79)).alloc (.cells (pairTop b1 w1.heap.size ⟨#[]⟩) 81)).heap[w1.heap.size]? = some (.cells (RRep.zero w1.heap.size).top 79 (0, 0)) := by
    rw [(Keeps.alloc (fun _ => False) _ _).block _ (by simp) (fun h => h)]
    exact heap_new w1 _
  refine ⟨b1, w1.heap.size, ⟨#[]⟩, Gst.zero, Rst.zero, [b1], [w1.heap.size], e1, ⟨h.kept (((Keeps.refl (fun _ => False) w1).al _).al _) (fun _ _ h => h), new_f e2, sim_zero, fun k hk hf => ?_⟩, fun hm => ?_, rfl⟩
  · have q1 : k = b1 := by simpa using hk
    have q2 : k = w1.heap.size := by simpa using hf
    omega
  · simp at hm
    omega

/-- two pairs and a book that were just made -/
theorem trio_new {w w1 w2 w3 w4 : World} (d1 : Duo 0 w2 (w1.heap.size + 1) [w.heap.size, w1.heap.size]) (z1 : w.heap.size < w1.heap.size) (z2 : w2.heap.size = w1.heap.size + 2)
    (k3 : Keeps (fun _ => False) w2 w3) (z3 : w2.heap.size < w3.heap.size) (d4 : Duo 0 w4 (w3.heap.size + 1) [w2.heap.size, w3.heap.size]) (z4 : w4.heap.size = w3.heap.size + 2) (k4 : Keeps (fun _ => False) w3 w4) :
    Trio w.heap.size 0 0 (w4.alloc (.cells #[.slice none 0 0, .slice none 0 0, .slice none 0 0, .slice none 0 0, .int .i64 0] 31)) (w1.heap.size + 1) (w3.heap.size + 1) w4.heap.size := by
  have hk5 := Keeps.alloc (fun _ => False) w4 (.cells #[.slice none 0 0, .slice none 0 0, .slice none 0 0, .slice none 0 0, .int .i64 0] 31)
  refine ⟨[w.heap.size, w1.heap.size], [w2.heap.size, w3.heap.size], [w4.heap.size], ⟨((d1.kept k3 (fun _ _ h => h)).kept k4 (fun _ _ h => h)).kept hk5 (fun _ _ h => h), new_book (heap_new w4 _), fun k hk hg => ?_⟩, d4.kept hk5 (fun _ _ h => h), fun k hk => ⟨fun hp => ?_, fun hg => ?_⟩, fun k hk => ?_, fun k hk => ?_, fun k hk => ?_⟩
  all_goals simp only [List.mem_cons, List.not_mem_nil, or_false] at *
  all_goals omega

/-! ### Look of a pair: nothing turns -/
theorem look_f2 {N : Nat} {w : World} {b : Nat} {A : Rst} {F : List Nat} (h : FSt N w b A F) (hN : N ≤ 10000000000) :
    Calls Tryz.prog 31 #[.pointer (some ⟨b, 0, none⟩)] w fun e w' => e = .returned (.agg #[.int .i64 A.now, .int .i64 A.floor, .int .i64 A.works.length, .int .i64 A.pins.length, .int .i64 (countL A.all), .int .i64 A.copies.length]) ∧ Keeps (fun _ => False) w w' := by
  obtain ⟨R, hi, rfl, rfl, rfl⟩ := h
  have h1 := hi.allN
  refine (lookR_any R w hi.at_ (by omega)).mono ?_
  rintro e w' ⟨rfl, hk⟩
  exact ⟨by simp [RRep.rst], hk⟩

/-- what Look tells of a pair's two stores -/
structure Looks (w : World) (pb xb yb : Nat) (r1 r2 r3 r4 r5 r6 : Int) : Prop where
  x : w.cell? ⟨pb, 0, none⟩ = some (.pointer (some ⟨xb, 0, none⟩))
  y : w.cell? ⟨pb, 1, none⟩ = some (.pointer (some ⟨yb, 0, none⟩))
  lx : ∀ W, Keeps (fun _ => False) w W → Calls Tryz.prog 17 #[.pointer (some ⟨xb, 0, none⟩)] W fun e w' => e = .returned (.agg #[.int .i64 r1, .int .i64 r2, .int .i64 r3, .int .i64 r4, .int .i64 r5, .int .i64 r6]) ∧ Keeps (fun _ => False) w w'
  ly : ∀ W, Keeps (fun _ => False) w W → Calls Tryz.prog 31 #[.pointer (some ⟨yb, 0, none⟩)] W fun e w' => e = .returned (.agg #[.int .i64 r1, .int .i64 r2, .int .i64 r3, .int .i64 r4, .int .i64 r5, .int .i64 r6]) ∧ Keeps (fun _ => False) w w'

theorem Duo.looks {N : Nat} {w : World} {pb : Nat} {Fs : List Nat} (h : Duo N w pb Fs) (hN : N ≤ 10000000000) : ∃ xb yb r1 r2 r3 r4 r5 r6, Looks w pb xb yb r1 r2 r3 r4 r5 r6 := by
  obtain ⟨xb, yb, tx, A, B, FG, FF, h1, h2, h3, rfl⟩ := h
  refine ⟨xb, yb, _, _, _, _, _, _, cell_of_heap h1 0, cell_of_heap h1 1, fun W hW => (look_g (h2.x.kept hW (fun _ _ h => h)) (by omega)).mono fun e w' hh => ⟨hh.1, hW.tr hh.2.2 (fun _ h => h)⟩, fun W hW => ?_⟩
  rw [h2.sim.now, h2.sim.floor, h2.sim.openN, h2.sim.pinSum, h2.sim.total, h2.sim.copN]
  exact (look_f2 (h2.y.kept hW (fun _ _ h => h)) hN).mono fun e w' hh => ⟨hh.1, hW.tr hh.2 (fun _ h => h)⟩

theorem Trio.looks {B N K : Nat} {w : World} {pb qb bb : Nat} (h : Trio B N K w pb qb bb) (hN : N ≤ 10000000000) : ∃ xb yb r1 r2 r3 r4 r5 r6, Looks w pb xb yb r1 r2 r3 r4 r5 r6 := by
  obtain ⟨F1, F2, G, h⟩ := h
  exact h.p.duo.looks hN

/-! ### the script -/
structure OpB where
  k : Int
  n : Int
  m : Int
  key : ByteArray
  val : ByteArray
  full : Bool
  ta : Option Addr
  tl : Nat
  tc : Nat
  sfull : Bool
  sfrom : Int
  sto : Int
  ra : Option Addr
  rl : Nat
  rc : Nat

/-- the cells of one step -/
structure OpIn (w : World) (b o : Nat) (s : OpB) : Prop where
  c0 : w.cell? ⟨b, o, none⟩ = some (.int .i64 s.k)
  c1 : w.cell? ⟨b, o + 1, none⟩ = some (.int .i64 s.n)
  c2 : w.cell? ⟨b, o + 2, none⟩ = some (.int .i64 s.m)
  c3 : w.cell? ⟨b, o + 3, none⟩ = some (.string s.key)
  c4 : w.cell? ⟨b, o + 4, none⟩ = some (.string s.val)
  c5 : w.cell? ⟨b, o + 5, none⟩ = some (.bool s.full)
  c6 : w.cell? ⟨b, o + 6, none⟩ = some (.slice s.ta s.tl s.tc)
  c7 : w.cell? ⟨b, o + 7, none⟩ = some (.bool s.sfull)
  c8 : w.cell? ⟨b, o + 8, none⟩ = some (.int .i64 s.sfrom)
  c9 : w.cell? ⟨b, o + 9, none⟩ = some (.int .i64 s.sto)
  c10 : w.cell? ⟨b, o + 10, none⟩ = some (.slice s.ra s.rl s.rc)
  bk : -9223372036854775808 ≤ s.k ∧ s.k ≤ 9223372036854775807
  bm : -9223372036854775808 ≤ s.m ∧ s.m ≤ 9223372036854775807
  bkey : s.key.size ≤ maxLen
  bval : s.val.size ≤ maxLen

def OpsAt (w : World) (oa : Option Addr) (n : Nat) (S : Nat → OpB) : Prop := ∀ i, i < n → ∃ b off, oa = some ⟨b, off, none⟩ ∧ OpIn w b (off + i * 11) (S i)

theorem OpIn.kept {w w' : World} {b o : Nat} {s : OpB} (h : OpIn w b o s) (hk : Keeps (fun _ => False) w w') : OpIn w' b o s :=
  ⟨hk.cell h.c0 (fun h => h), hk.cell h.c1 (fun h => h), hk.cell h.c2 (fun h => h), hk.cell h.c3 (fun h => h), hk.cell h.c4 (fun h => h), hk.cell h.c5 (fun h => h), hk.cell h.c6 (fun h => h), hk.cell h.c7 (fun h => h), hk.cell h.c8 (fun h => h), hk.cell h.c9 (fun h => h), hk.cell h.c10 (fun h => h), h.bk, h.bm, h.bkey, h.bval⟩

theorem OpsAt.kept {w w' : World} {oa : Option Addr} {n : Nat} {S : Nat → OpB} (h : OpsAt w oa n S) (hk : Keeps (fun _ => False) w w') : OpsAt w' oa n S := fun i hi => by
  obtain ⟨b, off, e, h1⟩ := h i hi
  exact ⟨b, off, e, h1.kept hk⟩

end Go.Proofs.YtfcocbcihhdbkaaGreatDoor
