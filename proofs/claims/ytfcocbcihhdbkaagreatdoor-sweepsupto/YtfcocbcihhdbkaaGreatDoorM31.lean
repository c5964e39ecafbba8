import Derived.Test.YtfcocbcihhdbkaaGreatDoorM30

/- works: the other calls. -/
namespace Go.Proofs.YtfcocbcihhdbkaaGreatDoor
open Go.RowKit Go.Shelf

set_option maxRecDepth 100000 in
set_option maxHeartbeats 2000000 in
theorem works_get {N K pb bb : Nat} {Fs G : List Nat} (n mm : Int) (key val : ByteArray) (x5 x6 x7 x8 x9 x10 : Value) (w : World) (h : Both N K w pb bb Fs G) (hN : N ≤ 10000000000) (hk : key.size ≤ maxLen) :
    Calls Tryz.prog 73 #[.pointer (some ⟨pb, 0, none⟩), .pointer (some ⟨bb, 0, none⟩), .agg #[.int .i64 2, .int .i64 n, .int .i64 mm, .string key, .string val, x5, x6, x7, x8, x9, x10]] w fun e w' => e = .returned (.bool true) ∧ BothAfter (N + 1000) K pb bb Fs G w w' := by
  have HH := hid h
  obtain ⟨xb, yb, tx, A, B, FG, FF, hp, h2, hpn, rfl⟩ := id h.duo
  have HLT := hid h.duo.lt
  have HD := hid (fun W (hW : Keeps (fun _ => False) w W) => duet_get ((hW.block pb (Array.getElem?_eq_some_iff.1 hp).1 (fun h => h)).trans hp) hpn (h2.kept hW (fun _ _ h => h)) hN n key hk)
  have HS := hid (fun W (hW : Keeps (· ∈ FG ++ FF) (w.alloc (.cells #[.int .i64 2, .int .i64 n, .int .i64 mm, .string key, .string val, x5, x6, x7, x8, x9, x10] 72)) W) => step_at hp hpn (fun j hj => HLT.out j (List.mem_cons_of_mem _ hj)) hW)
  obtain ⟨c0, c1, c2, c3, c4, c5⟩ := HS.out _ (Keeps.refl _ _)
  have HNU := hid (fun W => num_any (A.getR n key).2 W)
  generalize (A.getR n key).1 = r1 at *
  generalize (A.getR n key).2 = r2 at *
  clear hk
  clear h hp h2 hpn hN
  go_enter Tryz.func73, Tryz.ntmps73
  go_wp2_with fail
  go_region_held3 (fun W => W.cell? ⟨pb, 0, none⟩ = some (.pointer (some ⟨xb, 0, none⟩)) ∧ W.cell? ⟨pb, 1, none⟩ = some (.pointer (some ⟨yb, 0, none⟩)) ∧ W.cell? ⟨w.heap.size, 1, none⟩ = some (.int .i64 n) ∧ W.cell? ⟨w.heap.size, 3, none⟩ = some (.string key)) (go_keep) (first | (go_at_call 43; refine (HD.out _ ((Keeps.refl _ _).al _).dr).mono ?_; rintro e w1 ⟨rfl, k1, hy⟩; have HY := hid hy; have HK1 := hid ((Keeps.drew (· ∈ FG ++ FF) _).tr k1 (fun _ h => h)); obtain ⟨d0, d1, d2, d3, d4, d5⟩ := HS.out _ HK1.out; clear hy k1))
  clear c0 c1 c2 c3 c4 c5
  go_wp2_with fail
  go_region_held3 (fun W => W.cell? ⟨pb, 0, none⟩ = some (.pointer (some ⟨xb, 0, none⟩)) ∧ W.cell? ⟨pb, 1, none⟩ = some (.pointer (some ⟨yb, 0, none⟩)) ∧ W.cell? ⟨w.heap.size, 1, none⟩ = some (.int .i64 n) ∧ W.cell? ⟨w.heap.size, 3, none⟩ = some (.string key)) (go_keep) (first | (go_at_call 126; refine (HY.out _ (Keeps.drew _ _)).mono ?_; rintro e w3 ⟨rfl, k3, hd⟩; have HDD := hid hd; obtain ⟨e0, e1, e2, e3, e4, e5⟩ := HS.out _ ((Keeps.drew (· ∈ FG ++ FF) _).tr k3 (fun _ h => h)); clear hd k3))
  go_wp2_with (go_at_call 35; go_must (refine (HNU.out _).mono ?_; rintro e w3 ⟨rfl, rfl⟩))
  go_ret
  refine ⟨rfl, ?_⟩
  exact ((HH.out.kept ((Keeps.refl _ _).al _).dr).duoAfter HDD.out).pre ((Keeps.refl _ _).al _).dr

set_option maxRecDepth 100000 in
set_option maxHeartbeats 2000000 in
theorem works_commit {N K pb bb : Nat} {Fs G : List Nat} (n mm : Int) (key val : ByteArray) (x5 x6 x7 x8 x9 x10 : Value) (w : World) (h : Both N K w pb bb Fs G) (hN : N ≤ 10000000000) :
    Calls Tryz.prog 73 #[.pointer (some ⟨pb, 0, none⟩), .pointer (some ⟨bb, 0, none⟩), .agg #[.int .i64 6, .int .i64 n, .int .i64 mm, .string key, .string val, x5, x6, x7, x8, x9, x10]] w fun e w' => e = .returned (.bool true) ∧ BothAfter (N + 1000) K pb bb Fs G w w' := by
  have HH := hid h
  obtain ⟨xb, yb, tx, A, B, FG, FF, hp, h2, hpn, rfl⟩ := id h.duo
  have HLT := hid h.duo.lt
  have HD := hid (fun W (hW : Keeps (fun _ => False) w W) => duet_commit ((hW.block pb (Array.getElem?_eq_some_iff.1 hp).1 (fun h => h)).trans hp) hpn (h2.kept hW (fun _ _ h => h)) hN n)
  have HS := hid (fun W (hW : Keeps (· ∈ FG ++ FF) (w.alloc (.cells #[.int .i64 6, .int .i64 n, .int .i64 mm, .string key, .string val, x5, x6, x7, x8, x9, x10] 72)) W) => step_at hp hpn (fun j hj => HLT.out j (List.mem_cons_of_mem _ hj)) hW)
  obtain ⟨c0, c1, c2, c3, c4, c5⟩ := HS.out _ (Keeps.refl _ _)
  have HNU := hid (fun W => num_any (A.commitR n).2 W)
  generalize (A.commitR n).1 = r1 at *
  generalize (A.commitR n).2 = r2 at *
  clear h hp h2 hpn hN
  go_enter Tryz.func73, Tryz.ntmps73
  go_wp2_with fail
  go_region_held3 (fun W => W.cell? ⟨pb, 0, none⟩ = some (.pointer (some ⟨xb, 0, none⟩)) ∧ W.cell? ⟨pb, 1, none⟩ = some (.pointer (some ⟨yb, 0, none⟩)) ∧ W.cell? ⟨w.heap.size, 1, none⟩ = some (.int .i64 n)) (go_keep) (first | (go_at_call 42; refine (HD.out _ ((Keeps.refl _ _).al _).dr).mono ?_; rintro e w1 ⟨rfl, k1, hy⟩; have HY := hid hy; have HK1 := hid ((Keeps.drew (· ∈ FG ++ FF) _).tr k1 (fun _ h => h)); obtain ⟨d0, d1, d2, d3, d4, d5⟩ := HS.out _ HK1.out; clear hy k1))
  clear c0 c1 c2 c3 c4 c5
  go_wp2_with fail
  go_region_held3 (fun W => W.cell? ⟨pb, 0, none⟩ = some (.pointer (some ⟨xb, 0, none⟩)) ∧ W.cell? ⟨pb, 1, none⟩ = some (.pointer (some ⟨yb, 0, none⟩)) ∧ W.cell? ⟨w.heap.size, 1, none⟩ = some (.int .i64 n)) (go_keep) (first | (go_at_call 128; refine (HY.out _ (Keeps.drew _ _)).mono ?_; rintro e w3 ⟨rfl, k3, hd⟩; have HDD := hid hd; obtain ⟨e0, e1, e2, e3, e4, e5⟩ := HS.out _ ((Keeps.drew (· ∈ FG ++ FF) _).tr k3 (fun _ h => h)); clear hd k3))
  go_wp2_with (go_at_call 35; go_must (refine (HNU.out _).mono ?_; rintro e w3 ⟨rfl, rfl⟩))
  go_ret
  refine ⟨rfl, ?_⟩
  exact ((HH.out.kept ((Keeps.refl _ _).al _).dr).duoAfter HDD.out).pre ((Keeps.refl _ _).al _).dr

set_option maxRecDepth 100000 in
set_option maxHeartbeats 2000000 in
theorem works_put {N K pb bb : Nat} {Fs G : List Nat} (n mm : Int) (key val : ByteArray) (x5 x6 x7 x8 x9 x10 : Value) (w : World) (h : Both N K w pb bb Fs G) (hN : N ≤ 10000000000) (hk : key.size ≤ maxLen) (hv : val.size ≤ maxLen) :
    Calls Tryz.prog 73 #[.pointer (some ⟨pb, 0, none⟩), .pointer (some ⟨bb, 0, none⟩), .agg #[.int .i64 3, .int .i64 n, .int .i64 mm, .string key, .string val, x5, x6, x7, x8, x9, x10]] w fun e w' => e = .returned (.bool true) ∧ BothAfter (N + 1000) K pb bb Fs G w w' := by
  have HH := hid h
  obtain ⟨xb, yb, tx, A, B, FG, FF, hp, h2, hpn, rfl⟩ := id h.duo
  have HLT := hid h.duo.lt
  have HD := hid (fun W (hW : Keeps (fun _ => False) w W) => duet_put ((hW.block pb (Array.getElem?_eq_some_iff.1 hp).1 (fun h => h)).trans hp) hpn (h2.kept hW (fun _ _ h => h)) hN n key val hk hv)
  have HS := hid (fun W (hW : Keeps (· ∈ FG ++ FF) (w.alloc (.cells #[.int .i64 3, .int .i64 n, .int .i64 mm, .string key, .string val, x5, x6, x7, x8, x9, x10] 72)) W) => step_at hp hpn (fun j hj => HLT.out j (List.mem_cons_of_mem _ hj)) hW)
  obtain ⟨c0, c1, c2, c3, c4, c5⟩ := HS.out _ (Keeps.refl _ _)
  have HNU := hid (fun W => num_any (A.writeR n key val) W)
  generalize A.writeR n key val = r1 at *
  clear hk hv
  clear h hp h2 hpn hN
  go_enter Tryz.func73, Tryz.ntmps73
  go_wp2_with fail
  go_region_held3 (fun W => W.cell? ⟨pb, 0, none⟩ = some (.pointer (some ⟨xb, 0, none⟩)) ∧ W.cell? ⟨pb, 1, none⟩ = some (.pointer (some ⟨yb, 0, none⟩)) ∧ W.cell? ⟨w.heap.size, 1, none⟩ = some (.int .i64 n) ∧ W.cell? ⟨w.heap.size, 3, none⟩ = some (.string key) ∧ W.cell? ⟨w.heap.size, 4, none⟩ = some (.string val)) (go_keep) (first | (go_at_call 41; refine (HD.out _ ((Keeps.refl _ _).al _).dr).mono ?_; rintro e w1 ⟨rfl, k1, hy⟩; have HY := hid hy; have HK1 := hid ((Keeps.drew (· ∈ FG ++ FF) _).tr k1 (fun _ h => h)); obtain ⟨d0, d1, d2, d3, d4, d5⟩ := HS.out _ HK1.out; clear hy k1))
  clear c0 c1 c2 c3 c4 c5
  go_wp2_with fail
  go_region_held3 (fun W => W.cell? ⟨pb, 1, none⟩ = some (.pointer (some ⟨yb, 0, none⟩)) ∧ W.cell? ⟨w.heap.size, 1, none⟩ = some (.int .i64 n) ∧ W.cell? ⟨w.heap.size, 3, none⟩ = some (.string key) ∧ W.cell? ⟨w.heap.size, 4, none⟩ = some (.string val)) (go_keep) (first
    | (go_at_call 35; refine (HNU.out _).mono ?_; rintro e w2 ⟨rfl, rfl⟩)
    | (go_at_call 127; refine (HY.out _ (Keeps.drew _ _)).mono ?_; rintro e w3 ⟨rfl, k3, hd⟩; have HDD := hid hd; obtain ⟨e0, e1, e2, e3, e4, e5⟩ := HS.out _ ((Keeps.drew (· ∈ FG ++ FF) _).tr k3 (fun _ h => h)); clear hd k3))
  go_wp2
  go_ret
  refine ⟨rfl, ?_⟩
  exact ((HH.out.kept ((Keeps.refl _ _).al _).dr).duoAfter HDD.out).pre ((Keeps.refl _ _).al _).dr

set_option maxRecDepth 100000 in
set_option maxHeartbeats 2000000 in
theorem works_delete {N K pb bb : Nat} {Fs G : List Nat} (n mm : Int) (key val : ByteArray) (x5 x6 x7 x8 x9 x10 : Value) (w : World) (h : Both N K w pb bb Fs G) (hN : N ≤ 10000000000) (hk : key.size ≤ maxLen) :
    Calls Tryz.prog 73 #[.pointer (some ⟨pb, 0, none⟩), .pointer (some ⟨bb, 0, none⟩), .agg #[.int .i64 4, .int .i64 n, .int .i64 mm, .string key, .string val, x5, x6, x7, x8, x9, x10]] w fun e w' => e = .returned (.bool true) ∧ BothAfter (N + 1000) K pb bb Fs G w w' := by
  have HH := hid h
  obtain ⟨xb, yb, tx, A, B, FG, FF, hp, h2, hpn, rfl⟩ := id h.duo
  have HLT := hid h.duo.lt
  have HD := hid (fun W (hW : Keeps (fun _ => False) w W) => duet_delete ((hW.block pb (Array.getElem?_eq_some_iff.1 hp).1 (fun h => h)).trans hp) hpn (h2.kept hW (fun _ _ h => h)) hN n key hk)
  have HS := hid (fun W (hW : Keeps (· ∈ FG ++ FF) (w.alloc (.cells #[.int .i64 4, .int .i64 n, .int .i64 mm, .string key, .string val, x5, x6, x7, x8, x9, x10] 72)) W) => step_at hp hpn (fun j hj => HLT.out j (List.mem_cons_of_mem _ hj)) hW)
  obtain ⟨c0, c1, c2, c3, c4, c5⟩ := HS.out _ (Keeps.refl _ _)
  have HNU := hid (fun W => num_any (A.writeR n key ByteArray.empty) W)
  generalize A.writeR n key ByteArray.empty = r1 at *
  clear hk
  clear h hp h2 hpn hN
  go_enter Tryz.func73, Tryz.ntmps73
  go_wp2_with fail
  go_region_held3 (fun W => W.cell? ⟨pb, 0, none⟩ = some (.pointer (some ⟨xb, 0, none⟩)) ∧ W.cell? ⟨pb, 1, none⟩ = some (.pointer (some ⟨yb, 0, none⟩)) ∧ W.cell? ⟨w.heap.size, 1, none⟩ = some (.int .i64 n) ∧ W.cell? ⟨w.heap.size, 3, none⟩ = some (.string key)) (go_keep) (first | (go_at_call 45; refine (HD.out _ ((Keeps.refl _ _).al _).dr).mono ?_; rintro e w1 ⟨rfl, k1, hy⟩; have HY := hid hy; have HK1 := hid ((Keeps.drew (· ∈ FG ++ FF) _).tr k1 (fun _ h => h)); obtain ⟨d0, d1, d2, d3, d4, d5⟩ := HS.out _ HK1.out; clear hy k1))
  clear c0 c1 c2 c3 c4 c5
  go_wp2_with fail
  go_region_held3 (fun W => W.cell? ⟨pb, 1, none⟩ = some (.pointer (some ⟨yb, 0, none⟩)) ∧ W.cell? ⟨w.heap.size, 1, none⟩ = some (.int .i64 n) ∧ W.cell? ⟨w.heap.size, 3, none⟩ = some (.string key)) (go_keep) (first
    | (go_at_call 35; refine (HNU.out _).mono ?_; rintro e w2 ⟨rfl, rfl⟩)
    | (go_at_call 127; refine (HY.out _ (Keeps.drew _ _)).mono ?_; rintro e w3 ⟨rfl, k3, hd⟩; have HDD := hid hd; obtain ⟨e0, e1, e2, e3, e4, e5⟩ := HS.out _ ((Keeps.drew (· ∈ FG ++ FF) _).tr k3 (fun _ h => h)); clear hd k3))
  go_wp2
  go_ret
  refine ⟨rfl, ?_⟩
  exact ((HH.out.kept ((Keeps.refl _ _).al _).dr).duoAfter HDD.out).pre ((Keeps.refl _ _).al _).dr

set_option maxRecDepth 100000 in
set_option maxHeartbeats 2000000 in
theorem works_abort {N K pb bb : Nat} {Fs G : List Nat} (n mm : Int) (key val : ByteArray) (x5 x6 x7 x8 x9 x10 : Value) (w : World) (h : Both N K w pb bb Fs G) (hN : N ≤ 10000000000) :
    Calls Tryz.prog 73 #[.pointer (some ⟨pb, 0, none⟩), .pointer (some ⟨bb, 0, none⟩), .agg #[.int .i64 7, .int .i64 n, .int .i64 mm, .string key, .string val, x5, x6, x7, x8, x9, x10]] w fun e w' => e = .returned (.bool true) ∧ BothAfter (N + 1000) K pb bb Fs G w w' := by
  have HH := hid h
  obtain ⟨xb, yb, tx, A, B, FG, FF, hp, h2, hpn, rfl⟩ := id h.duo
  have HLT := hid h.duo.lt
  have HD := hid (fun W (hW : Keeps (fun _ => False) w W) => duet_abort ((hW.block pb (Array.getElem?_eq_some_iff.1 hp).1 (fun h => h)).trans hp) hpn (h2.kept hW (fun _ _ h => h)) hN n)
  have HS := hid (fun W (hW : Keeps (· ∈ FG ++ FF) (w.alloc (.cells #[.int .i64 7, .int .i64 n, .int .i64 mm, .string key, .string val, x5, x6, x7, x8, x9, x10] 72)) W) => step_at hp hpn (fun j hj => HLT.out j (List.mem_cons_of_mem _ hj)) hW)
  obtain ⟨c0, c1, c2, c3, c4, c5⟩ := HS.out _ (Keeps.refl _ _)
  have HNU := hid (fun W => num_any (A.abortR n) W)
  generalize A.abortR n = r1 at *
  clear h hp h2 hpn hN
  go_enter Tryz.func73, Tryz.ntmps73
  go_wp2_with fail
  go_region_held3 (fun W => W.cell? ⟨pb, 0, none⟩ = some (.pointer (some ⟨xb, 0, none⟩)) ∧ W.cell? ⟨pb, 1, none⟩ = some (.pointer (some ⟨yb, 0, none⟩)) ∧ W.cell? ⟨w.heap.size, 1, none⟩ = some (.int .i64 n)) (go_keep) (first | (go_at_call 56; refine (HD.out _ ((Keeps.refl _ _).al _).dr).mono ?_; rintro e w1 ⟨rfl, k1, hy⟩; have HY := hid hy; have HK1 := hid ((Keeps.drew (· ∈ FG ++ FF) _).tr k1 (fun _ h => h)); obtain ⟨d0, d1, d2, d3, d4, d5⟩ := HS.out _ HK1.out; clear hy k1))
  clear c0 c1 c2 c3 c4 c5
  go_wp2_with fail
  go_region_held3 (fun W => W.cell? ⟨pb, 1, none⟩ = some (.pointer (some ⟨yb, 0, none⟩)) ∧ W.cell? ⟨w.heap.size, 1, none⟩ = some (.int .i64 n)) (go_keep) (first
    | (go_at_call 35; refine (HNU.out _).mono ?_; rintro e w2 ⟨rfl, rfl⟩)
    | (go_at_call 129; refine (HY.out _ (Keeps.drew _ _)).mono ?_; rintro e w3 ⟨rfl, k3, hd⟩; have HDD := hid hd; obtain ⟨e0, e1, e2, e3, e4, e5⟩ := HS.out _ ((Keeps.drew (· ∈ FG ++ FF) _).tr k3 (fun _ h => h)); clear hd k3))
  go_wp2
  go_ret
  refine ⟨rfl, ?_⟩
  exact ((HH.out.kept ((Keeps.refl _ _).al _).dr).duoAfter HDD.out).pre ((Keeps.refl _ _).al _).dr

end Go.Proofs.YtfcocbcihhdbkaaGreatDoor
