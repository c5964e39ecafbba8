import Derived.Test.YtpagenipflmlfaaGreatDoorM24

/- Put, Delete and Commit where they refuse. -/

namespace Go.Proofs.YtpagenipflmlfaaGreatDoor

open Go.RowKit Go.Shelf

set_option maxRecDepth 100000 in
set_option maxHeartbeats 400000 in
/-- a work that has written 30 keys, and not this one -/
theorem write_full (R : Rep) (n : Int) (x : WkR) (key val : ByteArray) (gone : Bool) (w : World) (h : StoreAt w R) (hn : look R.works n = some x) (hkb : keyB key = true) (hvb : valB val = true) (hl : look x.writes key = none) (h30 : x.writes.length = 30) :
    Calls Tryz.prog 45 #[.pointer (some ⟨R.sb, 0, none⟩), .int .i64 n, .string key, .agg #[.int .i64 0, .string val, .bool gone]] w fun e w' => e = .returned (.int .i64 3) ∧ Keeps (fun _ => False) w w' := by
  have hmf : ∀ (fn : Fn) (first cap : Array Value) (w : World), (Instr.makeFunc fn first cap).run Tryz.prog w = .ok (.func fn first cap) w := fun _ _ _ _ => rfl
  have hks : key.size ≤ 10 := by simp [keyB] at hkb; omega
  have hvs : val.size ≤ 40 := by simpa [valB] using hvb
  have hW := h.kept ((((Keeps.refl (fun _ => False) w).al (.cells #[.int .i64 0, .string val, .bool gone] 107)).al (.cells #[.int .i64 0] 34)).al (.cells #[.slice none 0 0] 69)) (fun _ _ h => h)
  have hf := find_any R n _ hW
  rw [hn] at hf
  simp only [Option.map_some, Option.getD_some, workPtr] at hf
  have hxm := look_mem hn
  obtain ⟨d0, d1, -⟩ := h.works.work hxm
  obtain ⟨-, -, dM⟩ := hW.works.work hxm
  have HIK : Hid (∀ W, Calls Tryz.prog 50 #[.string key] W fun e w' => e = .returned (.bool true) ∧ w' = W) := fun W => by have := isKey_any key W (by unfold maxLen; omega); rwa [hkb] at this
  have HIV : Hid (∀ W, Calls Tryz.prog 82 #[.string val] W fun e w' => e = .returned (.bool true) ∧ w' = W) := fun W => by have := isValue_any val W (by unfold maxLen; omega); rwa [hvb] at this
  have HDM := hid dM
  have HLK : Hid (look (x.writes.map fun q => (q.1, q.2.val)) key = none) := by rw [look_map, hl]; exact rfl
  have HLN : Hid ((x.writes.map fun q => (q.1, q.2.val)).length = 30) := by rw [List.length_map]; exact h30
  have hlen : ∀ o4 ty, (Builtin.len_ #[102] ty #[.map (some x.mb)]).run Tryz.prog ((((w.alloc (.cells #[.int .i64 0, .string val, .bool gone] 107)).alloc (.cells #[.int .i64 0] 34)).alloc (.cells #[.slice none 0 0] 69)).alloc o4) = .ok (.int .i64 30) ((((w.alloc (.cells #[.int .i64 0, .string val, .bool gone] 107)).alloc (.cells #[.int .i64 0] 34)).alloc (.cells #[.slice none 0 0] 69)).alloc o4) := fun o4 ty => by
    have := (dM.kept (Keeps.alloc (fun _ => False) _ o4) (fun h => h)).length (P := Tryz.prog) Tryz.underlying102 ty
    rw [HLN.out] at this
    exact this
  have hxl : x.blk < w.heap.size := World.block_lt_of_cell? _ _ d0
  have hbl1 : x.blk < w.heap.size + 1 := by omega
  have hbl2 : x.blk < w.heap.size + 1 + 1 := by omega
  have hbl3 : x.blk < w.heap.size + 1 + 1 + 1 := by omega
  clear hn h hW hkb hvb hl h30 dM hxm
  generalize R.sb = sb at *
  go_enter_defers Tryz.func45, Tryz.ntmps45
  go_wp2_with (first
    | (go_at_call 47; go_must (refine hf.mono ?_; rintro e w1 ⟨rfl, rfl⟩))
    | (go_at_call 50; go_must (refine (HIK.out _).mono ?_; rintro e w1 ⟨rfl, rfl⟩))
    | (go_at_call 82; go_must (refine (HIV.out _).mono ?_; rintro e w1 ⟨rfl, rfl⟩))
    | (at_lookup; go_must (refine wpList_lookup_ok_at _ rfl _ _ 102 rfl 9 107 strKeyOk Tryz.underlying102 Tryz.underlying9 _ (Tryz.zeroVersion _) x.mb rfl key rfl _ HDM.out ?_; rw [HLK.out]; simp only [Option.getD_none, Option.isSome_none])))
  refine leaves_cons (f := 81) (args := #[.pointer (some ⟨w.heap.size + 1 + 1, 0, none⟩), .pointer (some ⟨w.heap.size + 1, 0, none⟩)]) (by simp) (by simp [go_sem]) ?_
  refine (write1_none (w.heap.size + 1 + 1) (w.heap.size + 1) 3 (by omega) _ ?_ ?_).mono ?_
  · simp [go_sem]
  · simp [go_sem]
  rintro e u' w'' ⟨rfl, rfl, hk⟩
  have hb : w''.cell? ⟨w.heap.size + 1, 0, none⟩ = some (.int .i64 3) := hk.cell (p := ⟨w.heap.size + 1, 0, none⟩) (by simp [go_sem]) (fun h => h)
  simp [Leaves, settle, results, Tryz.results45, go_sem, hb]
  exact (((((Keeps.refl _ w).al _).al _).al _).al _).tr hk (fun _ h => h)

set_option maxRecDepth 100000 in
set_option maxHeartbeats 400000 in
theorem commit_none (R : Rep) (n : Int) (w : World) (h : StoreAt w R) (hn : look R.works n = none) :
    Calls Tryz.prog 17 #[.pointer (some ⟨R.sb, 0, none⟩), .int .i64 n] w fun e w' => e = .returned (.tuple #[.int .i64 0, .int .i64 1]) ∧ Keeps (fun _ => False) w w' := by
  have hmf : ∀ (fn : Fn) (first cap : Array Value) (w : World), (Instr.makeFunc fn first cap).run Tryz.prog w = .ok (.func fn first cap) w := fun _ _ _ _ => rfl
  have hf := find_any R n _ (h.kept (((Keeps.refl (fun _ => False) w).al (.cells #[.int .i64 0] 34)).al (.cells #[.slice none 0 0] 69)) (fun _ _ h => h))
  rw [hn] at hf
  simp only [Option.map_none, Option.getD_none] at hf
  clear hn h
  generalize R.sb = sb at *
  go_enter_defers Tryz.func17, Tryz.ntmps17
  go_wp2_with (go_at_call 47; go_must (refine hf.mono ?_; rintro e w1 ⟨rfl, rfl⟩))
  refine leaves_cons (f := 46) (args := #[.pointer (some ⟨w.heap.size + 1, 0, none⟩), .pointer (some ⟨w.heap.size, 0, none⟩)]) (by simp) (by simp [go_sem]) ?_
  refine (commit1_none (w.heap.size + 1) w.heap.size 1 (by omega) _ ?_ ?_).mono ?_
  · simp [go_sem]
  · simp [go_sem]
  rintro e u' w'' ⟨rfl, rfl, hk⟩
  have hb : w''.cell? ⟨w.heap.size, 0, none⟩ = some (.int .i64 1) := hk.cell (p := ⟨w.heap.size, 0, none⟩) (by simp [go_sem]) (fun h => h)
  simp [Leaves, settle, results, Tryz.results17, go_sem, hb]
  exact (((Keeps.refl _ w).al _).al _).tr hk (fun _ h => h)

set_option maxRecDepth 100000 in
set_option maxHeartbeats 400000 in
/-- the last state that there may be -/
theorem commit_full (R : Rep) (n : Int) (x : WkR) (w : World) (h : StoreAt w R) (hn : look R.works n = some x) (hwr : x.writes ≠ []) (hnow : R.now = 1000000000) :
    Calls Tryz.prog 17 #[.pointer (some ⟨R.sb, 0, none⟩), .int .i64 n] w fun e w' => e = .returned (.tuple #[.int .i64 0, .int .i64 3]) ∧ Keeps (fun _ => False) w w' := by
  have hmf : ∀ (fn : Fn) (first cap : Array Value) (w : World), (Instr.makeFunc fn first cap).run Tryz.prog w = .ok (.func fn first cap) w := fun _ _ _ _ => rfl
  have hW := h.kept (((Keeps.refl (fun _ => False) w).al (.cells #[.int .i64 0] 34)).al (.cells #[.slice none 0 0] 69)) (fun _ _ h => h)
  have hf := find_any R n _ hW
  rw [hn] at hf
  simp only [Option.map_some, Option.getD_some, workPtr] at hf
  have hxm := look_mem hn
  obtain ⟨d0, d1, -⟩ := h.works.work hxm
  obtain ⟨-, -, dM⟩ := hW.works.work hxm
  have c0 : w.cell? ⟨R.sb, 0, none⟩ = some (.int .i64 1000000000) := (h.cell 0).trans (by rw [← hnow]; rfl)
  have hlen : 0 < (x.writes.map fun q => (q.1, q.2.val)).length := by simpa using List.length_pos_iff.2 hwr
  have HDM := hid dM
  have hlt := h.lt
  have hxl : x.blk < w.heap.size := World.block_lt_of_cell? _ _ d0
  clear hn h hW hwr hnow dM hxm
  generalize (x.writes.map fun q => (q.1, q.2.val)) = l at *
  obtain ⟨m, hm⟩ : ∃ m : Nat, l.length = m + 1 := ⟨l.length - 1, by omega⟩
  have HM := hid hm
  clear hm hlen
  have hne : ((m : Int) + 1 == 0) = false := beq_eq_false_iff_ne.2 (by omega)
  go_enter_defers Tryz.func17, Tryz.ntmps17
  go_wp2_with (first
    | (go_at_call 47; go_must (refine hf.mono ?_; rintro e w1 ⟨rfl, rfl⟩))
    | (at_len; go_must (refine wpList_len_at _ rfl _ 102 rfl 9 107 Tryz.underlying102 x.mb rfl _ HDM.out ?_; rw [HM.out]; simp only [Int.natCast_add, Int.natCast_one])))
  refine leaves_cons (f := 46) (args := #[.pointer (some ⟨w.heap.size + 1, 0, none⟩), .pointer (some ⟨w.heap.size, 0, none⟩)]) (by simp) (by simp [go_sem]) ?_
  refine (commit1_none (w.heap.size + 1) w.heap.size 3 (by omega) _ ?_ ?_).mono ?_
  · simp [go_sem]
  · simp [go_sem]
  rintro e u' w'' ⟨rfl, rfl, hk⟩
  have hb : w''.cell? ⟨w.heap.size, 0, none⟩ = some (.int .i64 3) := hk.cell (p := ⟨w.heap.size, 0, none⟩) (by simp [go_sem]) (fun h => h)
  simp [Leaves, settle, results, Tryz.results17, go_sem, hb]
  exact (((Keeps.refl _ w).al _).al _).tr hk (fun _ h => h)

end Go.Proofs.YtpagenipflmlfaaGreatDoor

/- Sweep of a store, from outside. -/

namespace Go.Proofs.YtpagenipflmlfaaGreatDoor

open Go.RowKit Go.Shelf

/-- what Sweep leaves of a store, the least state that is held being L -/
def Abs.swept (A : Abs) (L : Int) : Abs := { A with floor := L, vers := fun k => (A.vers k).drop (needN (A.vers k) L) }

theorem sum_const_le {α : Type} (f : α → Nat) (M : Nat) : ∀ (l : List α), (∀ a ∈ l, f a ≤ M) → (l.map f).sum ≤ l.length * M
  | [], _ => by simp
  | a :: l, h => by
    have h1 := h a (by simp)
    have h2 := sum_const_le f M l (fun b hb => h b (by simp [hb]))
    simp only [List.map_cons, List.sum_cons, List.length_cons, Nat.add_mul, Nat.one_mul]
    omega

theorem upN_mono {vs : List Ver} {s t : Int} (h : s ≤ t) (hr : Rising vs) : upN vs s ≤ upN vs t := by
  induction vs with
  | nil => simp [upN]
  | cons v vs ih =>
    unfold upN at *
    by_cases h1 : v.state ≤ s
    · have h2 : v.state ≤ t := Int.le_trans h1 h
      have := ih (List.pairwise_cons.1 hr).2
      simp [h1, h2]
      exact this
    · simp [List.takeWhile_cons, h1]

theorem upN_spec {vs : List Ver} {t : Int} (hr : Rising vs) : (∀ j (h : j < vs.length), j < upN vs t → vs[j].state ≤ t) ∧ (∀ j (h : j < vs.length), upN vs t ≤ j → t < vs[j].state) := by
  induction vs with
  | nil => exact ⟨fun j h => absurd h (Nat.not_lt_zero _), fun j h => absurd h (Nat.not_lt_zero _)⟩
  | cons v vs ih =>
    obtain ⟨h1, h2⟩ := List.pairwise_cons.1 hr
    obtain ⟨i1, i2⟩ := ih h2
    by_cases hv : v.state ≤ t
    · have e : upN (v :: vs) t = upN vs t + 1 := by simp [upN, hv]
      rw [e]
      refine ⟨fun j hj hlt => ?_, fun j hj hle => ?_⟩
      · cases j with
        | zero => simpa using hv
        | succ j => simpa using i1 j (by simpa using hj) (by omega)
      · cases j with
        | zero => omega
        | succ j => simpa using i2 j (by simpa using hj) (by omega)
    · have e : upN (v :: vs) t = 0 := by simp [upN, hv]
      rw [e]
      refine ⟨fun j hj hlt => by omega, fun j hj _ => ?_⟩
      cases j with
      | zero => simp; omega
      | succ j =>
        have hj' : j < vs.length := by simpa using hj
        have := h1 vs[j] (List.getElem_mem hj')
        simp
        omega

theorem upN_drop {vs : List Ver} {t : Int} {n : Nat} (hr : Rising vs) (hn : n ≤ upN vs t) : upN (vs.drop n) t = upN vs t - n := by
  obtain ⟨h1, h2⟩ := upN_spec (t := t) hr
  have hle := upN_le vs t
  refine upN_eq (by rw [List.length_drop]; omega) (fun j hj hlt => ?_) (fun j hj hge => ?_)
  · rw [List.getElem_drop]
    exact h1 _ _ (by omega)
  · rw [List.getElem_drop]
    exact h2 _ _ (by omega)

/-- .. whatever becomes behind it. -/
theorem at_more {vs : List Ver} {v : Ver} {t : Int} (hr : Rising vs) (h : t < v.state) : atVer (vs ++ [v]) t = atVer vs t := by
  obtain ⟨h1, h2⟩ := upN_spec (t := t) hr
  have hle := upN_le vs t
  have e : upN (vs ++ [v]) t = upN vs t := by
    refine upN_eq (by simp; omega) (fun j hj hlt => ?_) (fun j hj hge => ?_)
    · rw [List.getElem_append_left (by omega)]
      exact h1 _ _ hlt
    · by_cases hj2 : j < vs.length
      · rw [List.getElem_append_left hj2]
        exact h2 _ _ hge
      · have ej : j = vs.length := by simp at hj; omega
        subst ej
        simpa using h
  unfold atVer
  rw [e]
  split
  · rfl
  · rw [List.getElem?_append_left (by omega)]

end Go.Proofs.YtpagenipflmlfaaGreatDoor

/- A store, told by what can be asked of it, whatever it holds. -/

namespace Go.Proofs.YtpagenipflmlfaaGreatDoor

open Go.RowKit Go.Shelf

/-- what can be asked of a store -/
structure Gst where
  now : Int
  floor : Int
  begun : Int
  works : List (Int × (Int × List (ByteArray × Ver)))
  pins : List (Int × Int)
  started : Int
  copyings : List (Int × Cop)
  keys : List ByteArray
  vers : ByteArray → List Ver

def Rep.gst (R : Rep) : Gst := ⟨R.now, R.floor, R.begun, R.works.map (fun p => (p.1, (p.2.began, p.2.writes))), R.pins, R.started, R.copyings, R.keys, versOf R.hist⟩

/-- how many versions there are -/
def Gst.total (A : Gst) : Nat := (A.keys.map (fun k => (A.vers k).length)).sum

def Gst.pinSum (A : Gst) : Int := (A.pins.map (·.2)).sum

/-- the states that are held, but for the last -/
def Gst.held (A : Gst) : List Int := A.works.map (fun p => p.2.1) ++ A.pins.map (fun p => p.1) ++ A.copyings.map (fun p => p.2.need)

theorem gst_held (R : Rep) : R.gst.held = R.held := by simp [Rep.gst, Gst.held, Rep.held, List.map_map, Function.comp_def]

/-- a copying's numbers are within their bounds -/
structure Cop.Ok (x : Cop) : Prop where
  from_ : 0 ≤ x.from' ∧ x.from' ≤ 1000000000
  to_ : 0 ≤ x.to ∧ x.to ≤ 1000000000
  next : x.next.size ≤ 11
  sum : 0 ≤ x.sum ∧ x.sum < 4294967296
  count : 0 ≤ x.count ∧ x.count ≤ 1000000000000

/-- A store that is as it should be; N bounds how much there is. -/
structure GInv (N : Nat) (w : World) (R : Rep) : Prop where
  st : StoreAt w R
  good : Good R
  tied : Tied R
  floor : 0 ≤ R.floor
  begunN : R.begun ≤ N
  keysN : R.keys.length ≤ N
  totN : R.total ≤ N
  pins : ∀ p ∈ R.pins, 1 ≤ p.2 ∧ 0 ≤ p.1
  pinsN : R.pinSum ≤ N
  startN : 0 ≤ R.started ∧ R.started ≤ N
  cops : ∀ p ∈ R.copyings, 1 ≤ p.1 ∧ p.1 ≤ R.started ∧ p.2.Ok
  cops4 : R.copyings.length ≤ 4

/-- The store at b is A; its blocks are F. -/
def GSt (N : Nat) (w : World) (b : Nat) (A : Gst) (F : List Nat) : Prop := ∃ R, GInv N w R ∧ R.sb = b ∧ R.gst = A ∧ R.fp = F

/-- What a call leaves of a store: all else is as it was. -/
def After (N : Nat) (b : Nat) (A : Gst) (F : List Nat) (w w' : World) : Prop := ∃ F', GSt N w' b A F' ∧ Keeps (· ∈ F) w w' ∧ ∀ k ∈ F', k ∈ F ∨ w.heap.size ≤ k

theorem GInv.kept {N : Nat} {w w' : World} {R : Rep} {S : Nat → Prop} (h : GInv N w R) (hk : Keeps S w w') (hS : ∀ k ∈ R.fp, ¬ S k) : GInv N w' R :=
  ⟨h.st.kept hk hS, h.good, h.tied, h.floor, h.begunN, h.keysN, h.totN, h.pins, h.pinsN, h.startN, h.cops, h.cops4⟩

theorem GInv.more {N N' : Nat} {w : World} {R : Rep} (h : GInv N w R) (hN : N ≤ N') : GInv N' w R :=
  ⟨h.st, h.good, h.tied, h.floor, by have := h.begunN; omega, by have := h.keysN; omega, by have := h.totN; omega, h.pins, by have := h.pinsN; omega, ⟨h.startN.1, by have := h.startN.2; omega⟩, h.cops, h.cops4⟩

theorem GSt.kept {N : Nat} {w w' : World} {b : Nat} {A : Gst} {F : List Nat} {S : Nat → Prop} (h : GSt N w b A F) (hk : Keeps S w w') (hS : ∀ k ∈ F, ¬ S k) : GSt N w' b A F := by
  obtain ⟨R, h1, h2, h3, rfl⟩ := h
  exact ⟨R, h1.kept hk hS, h2, h3, rfl⟩

theorem GSt.more {N N' : Nat} {w : World} {b : Nat} {A : Gst} {F : List Nat} (h : GSt N w b A F) (hN : N ≤ N') : GSt N' w b A F := by
  obtain ⟨R, h1, h2, h3, h4⟩ := h
  exact ⟨R, h1.more hN, h2, h3, h4⟩

theorem GSt.lt {N : Nat} {w : World} {b : Nat} {A : Gst} {F : List Nat} (h : GSt N w b A F) : ∀ k ∈ F, k < w.heap.size := by
  obtain ⟨R, h1, h2, h3, rfl⟩ := h
  exact fp_lt h1.st

theorem GSt.mem {N : Nat} {w : World} {b : Nat} {A : Gst} {F : List Nat} (h : GSt N w b A F) : b ∈ F := by
  obtain ⟨R, h1, rfl, h3, rfl⟩ := h
  simp [Rep.fp]

/-- nothing has changed -/
theorem GSt.after {N N' : Nat} {w w' : World} {b : Nat} {A : Gst} {F : List Nat} (h : GSt N w b A F) (hN : N ≤ N') (hk : Keeps (fun _ => False) w w') : After N' b A F w w' :=
  ⟨F, (h.kept hk (fun _ _ h => h)).more hN, hk.mono (fun _ _ h => h.elim), fun _ hk => .inl hk⟩

/-! ### keys put into a rising list -/

/-- a key more -/
def insK (ks : List ByteArray) (k : ByteArray) : List ByteArray := if memB ks k then ks else insAt ks (below ks k) k

theorem insK_mem (ks : List ByteArray) (k x : ByteArray) : x ∈ insK ks k ↔ x = k ∨ x ∈ ks := by
  unfold insK
  cases h : memB ks k with
  | true =>
    simp only [if_true]
    have := (memB_iff _ _).1 h
    exact ⟨fun h => .inr h, fun h => h.elim (fun e => e ▸ this) id⟩
  | false =>
    simp only [Bool.false_eq_true, if_false]
    exact mem_insAt

theorem insK_rises {ks : List ByteArray} (h : Rises ks) (k : ByteArray) : Rises (insK ks k) := by
  unfold insK
  cases hm : memB ks k with
  | true => exact h
  | false =>
    simp only [Bool.false_eq_true, if_false]
    exact rises_insAt h (fun hk => by rw [(memB_iff _ _).2 hk] at hm; cases hm)

def insAll (ks l : List ByteArray) : List ByteArray := l.foldl insK ks

theorem insAll_mem : ∀ (l ks : List ByteArray) (x : ByteArray), x ∈ insAll ks l ↔ x ∈ ks ∨ x ∈ l
  | [], ks, x => by simp [insAll]
  | k :: l, ks, x => by
    have := insAll_mem l (insK ks k) x
    simp only [insAll, List.foldl_cons] at this ⊢
    rw [this, insK_mem, List.mem_cons]
    constructor
    · rintro ((h | h) | h)
      · exact .inr (.inl h)
      · exact .inl h
      · exact .inr (.inr h)
    · rintro (h | h | h)
      · exact .inl (.inr h)
      · exact .inl (.inl h)
      · exact .inr h

theorem insAll_rises : ∀ (l : List ByteArray) {ks : List ByteArray}, Rises ks → Rises (insAll ks l)
  | [], _, h => h
  | k :: l, _, h => insAll_rises l (insK_rises h k)

theorem insK_length (ks : List ByteArray) (k : ByteArray) : (insK ks k).length ≤ ks.length + 1 := by
  unfold insK
  split
  · omega
  · rw [insAt_length _ _ _ (below_le _ _)]
    omega

theorem insAll_length : ∀ (l ks : List ByteArray), (insAll ks l).length ≤ ks.length + l.length
  | [], ks => by simp [insAll]
  | k :: l, ks => by
    have h1 := insAll_length l (insK ks k)
    have h2 := insK_length ks k
    simp only [insAll, List.foldl_cons, List.length_cons] at h1 ⊢
    omega

/-- what is not below a key, of a rising list -/
theorem drop_below {ks : List ByteArray} (h : Rises ks) (x : ByteArray) : ks.drop (below ks x) = ks.filter (fun k => !ltK k x) := by
  induction ks with
  | nil => rfl
  | cons k r ih =>
    obtain ⟨h1, h2⟩ := rises_cons h
    unfold below
    rw [List.takeWhile_cons]
    cases hk : ltK k x with
    | true =>
      simp only [if_true, List.length_cons, List.drop_succ_cons]
      have := ih h2
      unfold below at this
      rw [this]
      simp [hk]
    | false =>
      simp only [Bool.false_eq_true, if_false, List.length_nil, List.drop_zero]
      symm
      rw [List.filter_eq_self]
      intro y hy
      rcases List.mem_cons.1 hy with rfl | hy
      · simp [hk]
      · cases hyx : ltK y x with
        | false => rfl
        | true =>
          have := ltK_trans (h1 y hy) hyx
          rw [this] at hk
          cases hk

/-- sums over keys: only where something stands it counts -/
theorem sum_support {α : Type} [DecidableEq α] {f : α → Nat} : ∀ {l l0 : List α}, l.Nodup → (∀ k ∈ l, f k ≠ 0 → k ∈ l0) → (l.map f).sum ≤ (l0.map f).sum
  | [], l0, _, _ => by simp
  | a :: l, l0, hn, hs => by
    obtain ⟨hn1, hn2⟩ := List.nodup_cons.1 hn
    by_cases h0 : f a = 0
    · have := sum_support (l := l) (l0 := l0) hn2 (fun k hk => hs k (by simp [hk]))
      simp [h0, this]
    · have ha := hs a (by simp) h0
      have h1 := sum_support (l := l) (l0 := l0.erase a) hn2 (fun k hk hf => (List.mem_erase_of_ne (fun e : k = a => hn1 (e ▸ hk))).2 (hs k (by simp [hk]) hf))
      have h2 := ((List.perm_cons_erase ha).map f).sum_nat
      simp only [List.map_cons, List.sum_cons] at h2 ⊢
      omega

theorem sum_add {f g : ByteArray → Nat} : ∀ (l : List ByteArray), (l.map (fun k => f k + g k)).sum = (l.map f).sum + (l.map g).sum
  | [] => rfl
  | a :: l => by have := sum_add (f := f) (g := g) l; simp only [List.map_cons, List.sum_cons, this]; omega

theorem total_grew {R Rn : Rep} {ks : List ByteArray} {ver : ByteArray → Ver} (t : Tied R) (h : Grew R ks ver Rn) : Rn.total ≤ R.total + ks.length := by
  have hn := rises_nodup h.tied.rises
  have e : Rn.keys.map (fun k => (versOf Rn.hist k).length) = Rn.keys.map (fun k => (versOf R.hist k).length + (if memB ks k then 1 else 0)) := by
    apply List.map_congr_left
    intro k _
    rw [h.vers]
    split <;> simp
  unfold Rep.total
  rw [e, sum_add]
  have h1 := sum_support (f := fun k => (versOf R.hist k).length) (l := Rn.keys) (l0 := R.keys) hn (fun k _ hf => keys_of_vers t (fun e => hf (by rw [e]; rfl)))
  have h2 := sum_support (f := fun k => if memB ks k then 1 else 0) (l := Rn.keys) (l0 := ks) hn (fun k _ hf => by
    cases hm : memB ks k with
    | true => exact (memB_iff _ _).1 hm
    | false => rw [hm] at hf; exact absurd rfl hf)
  have h3 := sum_const_le (fun k => if memB ks k then 1 else 0) 1 ks (fun k _ => by split <;> omega)
  omega

end Go.Proofs.YtpagenipflmlfaaGreatDoor

/- A copying: what Start and Next do to the store; Start refused. -/

namespace Go.Proofs.YtpagenipflmlfaaGreatDoor

open Go.RowKit Go.Shelf

theorem eqMapC_some (b : Nat) (w : World) : (binOp BinOp.eql 60 (.map (some b)) (.map none)).run Tryz.prog w = .ok (.bool false) w := by kernel_rfl

theorem eqMapC_none (w : World) : (binOp BinOp.eql 60 (.map none) (.map none)).run Tryz.prog w = .ok (.bool true) w := by kernel_rfl

/-- the map of the copyings is written -/
theorem StoreAt.coped {w w' : World} {R : Rep} {C : List Nat} {b : Nat} {cops : List (Int × Cop)} (h : StoreAt w R) (hcm : R.cm = some b) (hk : Keeps (fun k => k ∈ C ∨ k = b) w w') (hC : ∀ k ∈ C, k ∉ R.fp) (hm : MapAt (Value.int .i64) w' b (cops.map fun p => (p.1, p.2.val))) : StoreAt w' { R with copyings := cops } := by
  have hnd := (fp_split R).nodup_iff.1 h.nodup
  have hb : b ∈ pcOf R.pm R.cm := by simp [pcOf, hcm]
  have hsb : ¬ (R.sb ∈ C ∨ R.sb = b) := by
    rintro (hc | e)
    · exact hC _ hc (by simp [Rep.fp])
    · rw [List.nodup_cons] at hnd
      exact hnd.1 (e ▸ List.mem_append_left _ hb)
  have := h.side R.pm R.cm R.pins R.started cops hk (fun k hk' => ?_) ((hk.block _ h.lt hsb).trans h.top) (h.works.pinsMap.kept hk (fun c hc => ?_)) (by rw [hcm]; exact hm) h.nodup
  · exact this
  · rintro (hc | e)
    · exact hC k hc ((fp_split R).mem_iff.2 (List.mem_cons_of_mem _ (List.mem_append_right _ hk')))
    · subst e
      rw [List.nodup_cons, List.nodup_append] at hnd
      exact hnd.2.2.2 k hb k hk' rfl
  · have hpm : c ∈ pcOf R.pm R.cm := by simp [pcOf, hc]
    rintro (hc' | e)
    · exact hC c hc' ((fp_split R).mem_iff.2 (List.mem_cons_of_mem _ (List.mem_append_left _ hpm)))
    · rw [List.nodup_cons, List.nodup_append] at hnd
      have h3 := hnd.2.1
      unfold pcOf at h3
      rw [hcm, hc, e] at h3
      simp at h3

theorem fp_cm {R : Rep} (hcm : R.cm = none) (q : Nat) : (Rep.fp { R with cm := some q }).Perm (q :: R.fp) := by
  refine (fp_split _).trans (List.Perm.trans ?_ ((fp_split R).symm.cons _))
  simp only [pcOf, hcm, Option.toList_some, Option.toList_none, List.append_nil, List.append_assoc]
  refine List.Perm.trans (List.Perm.cons _ ?_) (List.Perm.swap _ _ _)
  exact List.perm_middle

/-- .. or made -/
theorem StoreAt.copsMade {w w' : World} {R : Rep} {C : List Nat} {q : Nat} (h : StoreAt w R) (hcm : R.cm = none) (hk : Keeps (fun k => k ∈ C ∨ k = R.sb) w w') (hC : ∀ k ∈ C, k ∉ R.fp) (hq : MapAt (Value.int .i64) w q ([] : List (Int × Value))) (hqC : q ∉ C) (hqf : q ∉ R.fp) (hb : w'.heap[R.sb]? = (w.setCell ⟨R.sb, 6, none⟩ (.map (some q))).heap[R.sb]?) : StoreAt w' { R with cm := some q } := by
  have hcops : R.copyings = [] := by
    have := h.works.copyMap
    rw [hcm] at this
    have h2 : (R.copyings.map fun p => (p.1, p.2.val)) = [] := this
    simpa using h2
  have hnd := (fp_split R).nodup_iff.1 h.nodup
  have hnk : ∀ k ∈ R.fp, k ≠ R.sb → ¬ (k ∈ C ∨ k = R.sb) := fun k hk' hne => by
    rintro (hc | e)
    · exact hC k hc hk'
    · exact hne e
  have hne : ∀ k ∈ pcOf R.pm R.cm ++ (R.wm.toList ++ R.works.flatMap (fun p => [p.2.blk, p.2.mb]) ++ R.fpPast), k ≠ R.sb := fun k hk' e => by
    rw [List.nodup_cons] at hnd
    exact hnd.1 (e ▸ hk')
  have hmem : ∀ k ∈ pcOf R.pm R.cm ++ (R.wm.toList ++ R.works.flatMap (fun p => [p.2.blk, p.2.mb]) ++ R.fpPast), k ∈ R.fp := fun k hk' => (fp_split R).mem_iff.2 (List.mem_cons_of_mem _ hk')
  have := h.side R.pm (some q) R.pins R.started R.copyings hk (fun k hk' => hnk k (hmem k (List.mem_append_right _ hk')) (hne k (List.mem_append_right _ hk'))) ?_ (h.works.pinsMap.kept hk (fun c hc => ?_)) ?_ ((fp_cm hcm q).nodup_iff.2 (List.nodup_cons.2 ⟨hqf, h.nodup⟩))
  · exact this
  · rw [hb]
    exact h.set (R' := { R with cm := some q }) (i := 6) (v := .map (some q)) rfl (by simp [topCells])
  · have hpm : c ∈ pcOf R.pm R.cm := by simp [pcOf, hc]
    exact hnk c (hmem c (List.mem_append_left _ hpm)) (hne c (List.mem_append_left _ hpm))
  · rw [hcops]
    exact MapAt.kept hq hk (by
      rintro (hc | e)
      · exact hqC hc
      · exact hqf (by rw [e]; simp [Rep.fp]))

/-- the number of the last copying is written -/
theorem StoreAt.startSet {w w' : World} {R : Rep} {C : List Nat} {n : Int} (h : StoreAt w R) (hk : Keeps (fun k => k ∈ C ∨ k = R.sb) w w') (hC : ∀ k ∈ C, k ∉ R.fp) (hb : w'.heap[R.sb]? = (w.setCell ⟨R.sb, 5, none⟩ (.int .i64 n)).heap[R.sb]?) : StoreAt w' { R with started := n } := by
  have hnd := (fp_split R).nodup_iff.1 h.nodup
  have hnk : ∀ k ∈ R.fp, k ≠ R.sb → ¬ (k ∈ C ∨ k = R.sb) := fun k hk' hne => by
    rintro (hc | e)
    · exact hC k hc hk'
    · exact hne e
  have hne : ∀ k ∈ pcOf R.pm R.cm ++ (R.wm.toList ++ R.works.flatMap (fun p => [p.2.blk, p.2.mb]) ++ R.fpPast), k ≠ R.sb := fun k hk' e => by
    rw [List.nodup_cons] at hnd
    exact hnd.1 (e ▸ hk')
  have hmem : ∀ k ∈ pcOf R.pm R.cm ++ (R.wm.toList ++ R.works.flatMap (fun p => [p.2.blk, p.2.mb]) ++ R.fpPast), k ∈ R.fp := fun k hk' => (fp_split R).mem_iff.2 (List.mem_cons_of_mem _ hk')
  have := h.side R.pm R.cm R.pins n R.copyings hk (fun k hk' => hnk k (hmem k (List.mem_append_right _ hk')) (hne k (List.mem_append_right _ hk'))) ?_ (h.works.pinsMap.kept hk (fun c hc => ?_)) (h.works.copyMap.kept hk (fun c hc => ?_)) h.nodup
  · exact this
  · rw [hb]
    exact h.set (R' := { R with started := n }) (i := 5) (v := .int .i64 n) rfl (by simp [topCells])
  · have hpm : c ∈ pcOf R.pm R.cm := by simp [pcOf, hc]
    exact hnk c (hmem c (List.mem_append_left _ hpm)) (hne c (List.mem_append_left _ hpm))
  · have hpm : c ∈ pcOf R.pm R.cm := by simp [pcOf, hc]
    exact hnk c (hmem c (List.mem_append_left _ hpm)) (hne c (List.mem_append_left _ hpm))

theorem cops_put (l : List (Int × Cop)) (s : Int) (c : Cop) : put (l.map fun p => (p.1, p.2.val)) s c.val = (put l s c).map fun p => (p.1, p.2.val) := put_map Cop.val l s c

theorem cops_del (l : List (Int × Cop)) (s : Int) : del (l.map fun p => (p.1, p.2.val)) s = (del l s).map fun p => (p.1, p.2.val) := del_map Cop.val l s

theorem cops_look (l : List (Int × Cop)) (s : Int) : (look (l.map fun p => (p.1, p.2.val)) s).getD Cop.zero.val = ((look l s).getD Cop.zero).val := by
  rw [look_map Cop.val]
  cases look l s <;> rfl

/-- a copying that is begun -/
def Cop.new (full : Bool) (a b : Int) : Cop := ⟨full, a, b, false, ByteArray.empty, 0, 0⟩

set_option maxRecDepth 100000 in
set_option maxHeartbeats 2000000 in
theorem start_bad (R : Rep) (full : Bool) (a b j : Int) (w : World) (h : StoreAt w R) (g : Good R) (hr : Rises R.keys) (hl : R.keys.length ≤ 200000000000) (hc4 : R.copyings.length ≤ 4)
    (hj : judgeI (decide (R.floor ≤ b) && decide (b ≤ R.now)) (decide (R.floor ≤ a) && decide (a ≤ R.now)) R.copyings.length (tellL R.keys (versOf R.hist) (Cop.new full a b)).length (Cop.new full a b) = j) (h0 : 1 ≤ j) (h9 : j ≤ 9) :
    Calls Tryz.prog 32 #[.pointer (some ⟨R.sb, 0, none⟩), .bool full, .int .i64 a, .int .i64 b] w fun e w' => e = .returned (.tuple #[.int .i64 0, .int .i64 j]) ∧ Keeps (fun _ => False) w w' := by
  have hmf : ∀ (fn : Fn) (first cap : Array Value) (w : World), (Instr.makeFunc fn first cap).run Tryz.prog w = .ok (.func fn first cap) w := fun _ _ _ _ => rfl
  have HJ : Hid (∀ W, Keeps (fun _ => False) w W → Calls Tryz.prog 61 #[.pointer (some ⟨R.sb, 0, none⟩), .agg #[.bool full, .int .i64 a, .int .i64 b, .bool false, .string ByteArray.empty, .int .u32 0, .int .i64 0]] W fun e w' => e = .returned (.int .i64 j) ∧ Keeps (fun _ => False) W w') := fun W hW => by
    have := judge2_any R (Cop.new full a b) W (h.kept hW (fun _ _ h => h)) g hr hl hc4
    rw [show (Cop.new full a b).to = b from rfl, show (Cop.new full a b).from' = a from rfl, hj] at this
    exact this
  have hjB : (j == 0) = false := beq_eq_false_iff_ne.2 (by omega)
  have HJ0 := hid (And.intro h0 h9)
  clear h g hr hl hc4 hj h0 h9
  generalize R.sb = sb at *
  go_enter_defers Tryz.func32, Tryz.ntmps32
  go_wp2_with fail
  refine (HJ.out _ ((((Keeps.refl (fun _ => False) w).al _).al _).al _)).mono ?_
  rintro e w1 ⟨rfl, k1⟩
  have hE0 : w1.heap[w.heap.size]? = some (.cells #[.int .i64 0] 34 (0, 0)) := ((k1.block w.heap.size (by simp; omega) (fun h => h)).trans (Below.heap_alloc _ _ _ (by simp; omega))).trans ((Below.heap_alloc _ _ _ (by simp)).trans (heap_new w _))
  have hC0 : w1.heap[w.heap.size + 1]? = some (.cells #[.slice none 0 0] 69 (0, 0)) := ((k1.block (w.heap.size + 1) (by simp) (fun h => h)).trans (Below.heap_alloc _ _ _ (by simp))).trans (by have := heap_new (w.alloc (.cells #[.int .i64 0] 34)) (.cells #[.slice none 0 0] 69); simpa using this)
  have y0 : w1.cell? ⟨w.heap.size, 0, none⟩ = some (.int .i64 0) := cell_of_heap hE0 0
  have y1 : w1.frozen? ⟨w.heap.size, 0, none⟩ = false := frozen_of_heap hE0 0
  have HE0 := hid hE0
  have HC0 := hid hC0
  have HK1 := hid k1
  clear hE0 hC0 k1
  go_wp2
  refine leaves_cons (f := 60) (args := #[.pointer (some ⟨w.heap.size + 1, 0, none⟩), .pointer (some ⟨w.heap.size, 0, none⟩)]) (by simp) (by simp [go_sem]) ?_
  have hE1 := heap_setCell_same (i := 0) HE0.out (.int .i64 j)
  refine (start1_none (w.heap.size + 1) w.heap.size j HJ0.out _ ?_ ?_).mono ?_
  · have h1 := (Keeps.setCell w1 ⟨w.heap.size, 0, none⟩ (.int .i64 j)).block (w.heap.size + 1) (Array.getElem?_eq_some_iff.1 HC0.out).1 (by simp)
    exact cell_of_heap (h1.trans HC0.out) 0
  · exact cell_of_heap hE1 0
  rintro e u' w'' ⟨rfl, rfl, hk⟩
  have hb : w''.cell? ⟨w.heap.size, 0, none⟩ = some (.int .i64 j) := hk.cell (p := ⟨w.heap.size, 0, none⟩) (cell_of_heap hE1 0) (fun h => h)
  have hkk : Keeps (fun _ => False) w w'' := (((((Keeps.refl (fun _ => False) w).al _).al _).al _).tr HK1.out (fun _ h => h) |>.st (p := ⟨w.heap.size, 0, none⟩) (.inl (Nat.le_refl _)) _).tr hk (fun _ h => h)
  simp [Leaves, settle, results, Tryz.results32, go_sem, hb]
  exact hkk

end Go.Proofs.YtpagenipflmlfaaGreatDoor

/- A copying: findCopying, goOn. -/

namespace Go.Proofs.YtpagenipflmlfaaGreatDoor

open Go.RowKit Go.Shelf

attribute [local go_sem] Oper.semAt_some

def Cop.cells (x : Cop) : Array Value := #[.bool x.full, .int .i64 x.from', .int .i64 x.to, .bool x.headed, .string x.next, .int .u32 x.sum, .int .i64 x.count]

set_option maxRecDepth 100000 in
set_option maxHeartbeats 2000000 in
theorem findCopying_any (R : Rep) (n : Int) (w : World) (h : StoreAt w R) :
    Calls Tryz.prog 65 #[.pointer (some ⟨R.sb, 0, none⟩), .int .i64 n] w fun e w' => e = .returned (.tuple #[((look R.copyings n).getD Cop.zero).val, .bool (look R.copyings n).isSome]) ∧ Keeps (fun _ => False) w w' := by
  have hW := h.kept (Keeps.alloc (fun _ => False) w (.cells #[.bool false, .int .i64 0, .int .i64 0, .bool false, .string ⟨#[]⟩, .int .u32 0, .int .i64 0] 129)) (fun _ _ h => h)
  have hlk := hW.works.copyMap.lookup (P := Tryz.prog) (t := 60) intKeyOk Tryz.underlying60 Tryz.underlying3 (Tryz.zeroCop _) n true
  have hsm : (look (R.copyings.map fun p => (p.1, p.2.val)) n).isSome = (look R.copyings n).isSome := by rw [look_map Cop.val]; cases look R.copyings n <;> rfl
  simp only [if_true, cops_look, hsm] at hlk
  have c6 : w.cell? ⟨R.sb, 6, none⟩ = some (.map R.cm) := h.cell 6
  have hlt := h.lt
  clear h hW hsm
  generalize (look R.copyings n).isSome = ok at *
  generalize (look R.copyings n).getD Cop.zero = x at *
  obtain ⟨xf, xa, xt, xh, xn, xs, xc⟩ := x
  simp only [Cop.val] at hlk ⊢
  generalize R.sb = sb at *
  generalize R.cm = cm at *
  go_enter Tryz.func65, Tryz.ntmps65
  go_wp2
  refine bodyPost_ret (v := .tuple #[.agg #[.bool xf, .int .i64 xa, .int .i64 xt, .bool xh, .string xn, .int .u32 xs, .int .i64 xc], .bool ok]) ?_ rfl ?_
  · rw [results_cell_tmp rfl]
    go_simp
  · exact ⟨rfl, ((Keeps.refl _ w).al _).al _⟩

/-- what a copying tells next, whether it is the last, and how it stands behind it; recs: the records that it tells next -/
def goX (x : Cop) (recs : List RecB) : List UInt8 × Bool × Cop :=
  if x.headed = false then (headL x.full x.from'.toNat x.to.toNat, false, { x with headed := true, sum := (ovL x.sum.toNat (headL x.full x.from'.toNat x.to.toNat) : Nat) })
  else if recs = [] then (tailL x.sum.toNat x.count.toNat, true, x)
  else (blockL (recs.map RecB.rec_), false, { x with next := ((recs.getLast?.map RecB.key).getD ByteArray.empty) ++ ⟨#[0]⟩, sum := (ovL x.sum.toNat (blockL (recs.map RecB.rec_)) : Nat), count := x.count + recs.length })

def GoPost (xb : Nat) (r : List UInt8 × Bool × Cop) (w : World) (e : Ending) (w' : World) : Prop :=
  e = .returned (.tuple #[.string (ofL r.1), .bool r.2.1]) ∧ w'.heap[xb]? = some (.cells r.2.2.cells 129 (0, 0)) ∧ Keeps (· = xb) w w'

set_option maxRecDepth 100000 in
set_option maxHeartbeats 2000000 in
theorem goOn_head (sb xb : Nat) (full : Bool) (a b s : Nat) (xn : ByteArray) (c : Int) (w : World) (hx : w.heap[xb]? = some (.cells (Cop.cells ⟨full, a, b, false, xn, s, c⟩) 129 (0, 0))) (ha : a ≤ 1000000000) (hb : b ≤ 1000000000) (hs : s < 4294967296) (ht : TurnsAt w) (hxt : xb ≠ 8) :
    Calls Tryz.prog 66 #[.pointer (some ⟨sb, 0, none⟩), .pointer (some ⟨xb, 0, none⟩)] w (GoPost xb (headL full a b, false, ⟨full, a, b, true, xn, (ovL s (headL full a b) : Nat), c⟩) w) := by
  have hx1 := heap_setCell_same (i := 3) hx (.bool true)
  have hk1 : Keeps (· = xb) w (w.setCell ⟨xb, 3, none⟩ (.bool true)) := Keeps.setCell w ⟨xb, 3, none⟩ (.bool true)
  have x3 := cell_of_heap hx 3
  have f3 := frozen_of_heap hx 3
  simp [Cop.cells] at x3 hx1
  have HH := hid (head_any xb 5 _ _ full a b s (w.setCell ⟨xb, 3, none⟩ (.bool true)).drew (show (w.setCell ⟨xb, 3, none⟩ (.bool true)).drew.heap[xb]? = _ from hx1) (by rfl) hs (by omega) (by omega) ((ht.kept hk1 (fun e => hxt e.symm)).kept (Keeps.drew (fun _ => False) _) (fun h => h)))
  have z0 := cell_of_heap hx1 0
  have z1 := cell_of_heap hx1 1
  have z2 := cell_of_heap hx1 2
  simp at z0 z1 z2
  have HX1 := hid hx1
  have HK1 := hid hk1
  generalize headL full a b = hd at *
  clear hx hx1 ha hb hs ht hk1
  go_enter Tryz.func66, Tryz.ntmps66
  go_wp2_with fail
  generalize w.setCell ⟨xb, 3, none⟩ (.bool true) = w1 at *
  go_region_held3 (fun W => W.cell? ⟨xb, 0, none⟩ = some (.bool full) ∧ W.cell? ⟨xb, 1, none⟩ = some (.int .i64 (a : Nat)) ∧ W.cell? ⟨xb, 2, none⟩ = some (.int .i64 (b : Nat))) (go_keep) (first | (go_at_call 98; refine (HH.out).mono ?_; rintro e w2 ⟨rfl, hx2, hk2⟩; have r0 := cell_of_heap hx2 0; have r1 := cell_of_heap hx2 1; have r2 := cell_of_heap hx2 2; simp at r0 r1 r2))
  clear r0 r1 r2
  go_wp2
  go_ret2
  exact ⟨rfl, by simpa [Cop.cells] using hx2, HK1.out.tr ((Keeps.drew (fun _ => False) w1).mono (fun _ _ h => h.elim) |>.tr hk2 (fun _ h => h)) (fun _ h => h)⟩

set_option maxRecDepth 100000 in
set_option maxHeartbeats 2000000 in
theorem goOn_tail (sb xb : Nat) (full : Bool) (a b s c : Nat) (xn : ByteArray) (w : World) (hx : w.heap[xb]? = some (.cells (Cop.cells ⟨full, a, b, true, xn, s, c⟩) 129 (0, 0))) (hs : s < 4294967296) (hc : c ≤ 1000000000000) (ht : TurnsAt w)
    (htt : Calls Tryz.prog 95 #[.pointer (some ⟨sb, 0, none⟩), (Cop.val ⟨full, a, b, true, xn, s, c⟩), .int .i64 (4 : Nat)] w fun e w' => ∃ v, e = .returned v ∧ Made 147 3 RecB.cells w w' v []) :
    Calls Tryz.prog 66 #[.pointer (some ⟨sb, 0, none⟩), .pointer (some ⟨xb, 0, none⟩)] w (GoPost xb (tailL s c, true, ⟨full, a, b, true, xn, s, c⟩) w) := by
  have x0 := cell_of_heap hx 0
  have x1 := cell_of_heap hx 1
  have x2 := cell_of_heap hx 2
  have x3 := cell_of_heap hx 3
  have x4 := cell_of_heap hx 4
  have x5 := cell_of_heap hx 5
  have x6 := cell_of_heap hx 6
  simp [Cop.cells] at x0 x1 x2 x3 x4 x5 x6
  have HTT := hid htt
  have HX := hid hx
  have HT := hid (fun W (hW : Keeps (fun _ => False) w W) => tail_any xb 5 _ _ s c W ((hW.block xb (Array.getElem?_eq_some_iff.1 hx).1 (fun h => h)).trans hx) (by rfl) (by rfl) hs (by omega) (ht.kept hW (fun h => h)))
  simp only [Cop.val] at HTT
  generalize tailL s c = tx at *
  clear hx hs hc ht htt
  go_enter Tryz.func66, Tryz.ntmps66
  go_wp2_with fail
  refine HTT.out.mono ?_
  rintro e w1 ⟨v1, rfl, hM⟩
  obtain ⟨ob, cb, rfl, -, -⟩ := hM.row.form
  have HM := hid hM
  simp only [List.length_nil]
  clear hM HTT
  go_wp2_with fail
  refine (HT.out _ HM.out.keep).mono ?_
  rintro e w2 ⟨rfl, k2⟩
  go_wp2
  go_ret2
  have kk := HM.out.keep.tr k2 (fun _ h => h)
  exact ⟨rfl, (kk.block xb (Array.getElem?_eq_some_iff.1 HX.out).1 (fun h => h)).trans HX.out, kk.mono (fun _ _ h => h.elim)⟩

set_option maxRecDepth 100000 in
set_option maxHeartbeats 2000000 in
theorem goOn_block (sb xb : Nat) (full : Bool) (a b s c : Nat) (xn : ByteArray) (l : List RecB) (r : RecB) (w : World) (hx : w.heap[xb]? = some (.cells (Cop.cells ⟨full, a, b, true, xn, s, c⟩) 129 (0, 0))) (hs : s < 4294967296) (hc : c ≤ 1000000000000) (ht : TurnsAt w) (hxt : xb ≠ 8)
    (hl : l.length ≤ 3) (hsm : Small (l ++ [r]))
    (htt : Calls Tryz.prog 95 #[.pointer (some ⟨sb, 0, none⟩), (Cop.val ⟨full, a, b, true, xn, s, c⟩), .int .i64 (4 : Nat)] w fun e w' => ∃ v, e = .returned v ∧ Made 147 3 RecB.cells w w' v (l ++ [r])) :
    Calls Tryz.prog 66 #[.pointer (some ⟨sb, 0, none⟩), .pointer (some ⟨xb, 0, none⟩)] w (GoPost xb (blockL ((l ++ [r]).map RecB.rec_), false, ⟨full, a, b, true, r.key ++ ⟨#[0]⟩, (ovL s (blockL ((l ++ [r]).map RecB.rec_)) : Nat), ((c + (l.length + 1) : Nat) : Int)⟩) w) := by
  have x0 := cell_of_heap hx 0
  have x1 := cell_of_heap hx 1
  have x2 := cell_of_heap hx 2
  have x3 := cell_of_heap hx 3
  have x4 := cell_of_heap hx 4
  have x5 := cell_of_heap hx 5
  have x6 := cell_of_heap hx 6
  simp [Cop.cells] at x0 x1 x2 x3 x4 x5 x6
  have hxl := (Array.getElem?_eq_some_iff.1 hx).1
  have HTT := hid htt
  have HX := hid hx
  have hrk := (hsm r (by simp)).1
  have HB := hid (fun W cap g (hk : Keeps (· = xb) w W) (hb : W.heap[xb]? = some (.cells (Cop.cells ⟨full, a, b, true, r.key ++ ⟨#[0]⟩, s, c⟩) 129 (0, 0))) (hr : RecIn W (some ⟨g, 0, none⟩) (l ++ [r])) => block_any xb 5 _ _ s c (some ⟨g, 0, none⟩) cap (l ++ [r]) W hb (by rfl) (by rfl) hs (by omega) (by simp; omega) hr hsm (ht.kept hk (fun e => hxt e.symm)))
  have hln : (l ++ [r]).length = l.length + 1 := by simp
  have hel : (l ++ [r])[l.length]? = some r := by simp
  simp only [Cop.val] at HTT
  simp only [hln] at HB
  generalize blockL ((l ++ [r]).map RecB.rec_) = tx at *
  have HL := hid hl
  have HEL := hid hel
  have HLN := hid hln
  have hlI : (l.length : Int) ≤ 3 := by omega
  clear hx hs hc ht htt hl hsm hel
  go_enter Tryz.func66, Tryz.ntmps66
  go_wp2_with fail
  refine HTT.out.mono ?_
  rintro e w1 ⟨v1, rfl, hM⟩
  have hrow := hM.row
  rw [HLN.out] at hrow
  obtain ⟨g, cap, rfl⟩ := hrow.succ
  have hkc : w1.cell? ⟨g, l.length * 3, none⟩ = some (.string r.key) := by
    have hr2 := hM.row
    rw [← HLN.out] at hr2
    have := hr2.elem RecB.len l.length (by rw [HLN.out]; omega) 0 (by omega)
    simpa [RecB.cells] using this
  have hri : RecIn w1 (some ⟨g, 0, none⟩) (l ++ [r]) := fun i hi => by
    have hr2 := hM.row
    rw [← HLN.out] at hr2
    refine ⟨g, 0, rfl, ?_, ?_, ?_⟩
    · simpa [RecB.cells] using hr2.elem RecB.len i hi 0 (by omega)
    · simpa [RecB.cells] using hr2.elem RecB.len i hi 1 (by omega)
    · simpa [RecB.cells] using hr2.elem RecB.len i hi 2 (by omega)
  have hgx : xb ≠ g := fun e => by
    have := hM.own g rfl
    omega
  have hX1 := (hM.keep.block xb hxl (fun h => h)).trans HX.out
  have y4 := cell_of_heap hX1 4
  have y4f := frozen_of_heap hX1 4
  simp [Cop.cells] at y4
  have HK1 := hid hM.keep
  have HRI := hid hri
  have HX1 := hid hX1
  clear hM hrow HTT hln hri hX1
  generalize l.length = n at *
  go_wp2_with fail
  have hx2 := heap_setCell_same (i := 4) HX1.out (.string (r.key ++ ⟨#[0]⟩))
  have hk2 : Keeps (· = xb) w1 (w1.setCell ⟨xb, 4, none⟩ (.string (r.key ++ ⟨#[0]⟩))) := Keeps.setCell w1 ⟨xb, 4, none⟩ _
  refine (HB.out _ cap g ((HK1.out.mono (fun _ _ h => h.elim)).tr hk2 (fun _ h => h)) (by simpa [Cop.cells] using hx2) (fun i hi => ?_)).mono ?_
  · obtain ⟨g', off, e, h1, h2, h3⟩ := HRI.out i hi
    cases e
    exact ⟨g, 0, rfl, hk2.cell h1 (fun e => hgx e.symm), hk2.cell h2 (fun e => hgx e.symm), hk2.cell h3 (fun e => hgx e.symm)⟩
  rintro e w3 ⟨rfl, hx3, hk3⟩
  clear x0 x1 x2 x3 x4 x5 x6
  go_wp2
  go_ret2
  refine ⟨rfl, by simpa [Cop.cells] using hx3, ((HK1.out.mono (fun _ _ h => h.elim)).tr hk2 (fun _ h => h)).tr hk3 (fun _ h => h)⟩

end Go.Proofs.YtpagenipflmlfaaGreatDoor
