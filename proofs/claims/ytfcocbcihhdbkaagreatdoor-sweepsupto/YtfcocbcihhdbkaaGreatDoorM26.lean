import Derived.Test.YtfcocbcihhdbkaaGreatDoorM25

/- The document's store from outside: its state, what a call leaves. -/
namespace Go.Proofs.YtfcocbcihhdbkaaGreatDoor
open Go.RowKit Go.Shelf

structure Rst where
  all : List RVer
  now : Int
  floor : Int
  works : List (Int × Int × List RecB)
  begun : Int
  pins : List Int
  copies : List (Int × Int × List ByteArray)
  started : Int

def RWk.tell (x : RWk) : Int × Int × List RecB := (x.id, x.began, x.writes)
def RRep.rst (R : RRep) : Rst := ⟨R.all, R.now, R.floor, R.works.map RWk.tell, R.begun, R.pins, R.copies.map (fun x => (x.id, x.least, x.pieces)), R.started⟩

structure FInv (N : Nat) (w : World) (R : RRep) : Prop where
  at_ : RefAt w R
  allN : R.all.length ≤ N
  works8 : R.works.length ≤ 8
  writes : ∀ x ∈ R.works, x.writes.length ≤ 30
  begun0 : 0 ≤ R.begun
  begunN : R.begun ≤ N
  pinsN : R.pins.length ≤ N
  copies4 : R.copies.length ≤ 4
  now0 : 0 ≤ R.now

def FSt (N : Nat) (w : World) (b : Nat) (A : Rst) (F : List Nat) : Prop := ∃ R, FInv N w R ∧ R.b = b ∧ R.rst = A ∧ R.fp = F
def FAfter (N : Nat) (b : Nat) (A : Rst) (F : List Nat) (w w' : World) : Prop := ∃ F', FSt N w' b A F' ∧ Keeps (· ∈ F) w w' ∧ ∀ k ∈ F', k ∈ F ∨ w.heap.size ≤ k

theorem FInv.more {N M : Nat} {w : World} {R : RRep} (h : FInv N w R) (hm : N ≤ M) : FInv M w R := ⟨h.at_, Nat.le_trans h.allN hm, h.works8, h.writes, h.begun0, by have := h.begunN; omega, Nat.le_trans h.pinsN hm, h.copies4, h.now0⟩

theorem FInv.kept {N : Nat} {w w' : World} {R : RRep} (h : FInv N w R) (hk : Keeps (fun _ => False) w w') : FInv N w' R := ⟨h.at_.kept hk (fun _ _ h => h), h.allN, h.works8, h.writes, h.begun0, h.begunN, h.pinsN, h.copies4, h.now0⟩

theorem FInv.same {N : Nat} {w w' : World} {R : RRep} (h : FInv N w R) (hk : Keeps (fun _ => False) w w') : FAfter (N + 1) R.b R.rst R.fp w w' :=
  ⟨R.fp, ⟨R, (h.kept hk).more (by omega), rfl, rfl, rfl⟩, hk.mono (fun _ _ h => h.elim), fun _ h => .inl h⟩

theorem RAfter.out {N : Nat} {w w' : World} {R R' : RRep} (h : RAfter R R' w w') (hi : FInv N w' R') : FAfter N R.b R'.rst R.fp w w' :=
  ⟨R'.fp, ⟨R', hi, h.2.1, rfl, rfl⟩, h.2.2.1, h.2.2.2⟩

/-- Begin -/
def Rst.beginR (A : Rst) : Int × Int := if A.works.length < 8 then (A.begun + 1, 0) else (0, 3)
def Rst.beginS (A : Rst) : Rst := if A.works.length < 8 then { A with works := A.works ++ [(A.begun + 1, A.now, [])], begun := A.begun + 1 } else A

theorem begin_f {N : Nat} {w : World} {b : Nat} {A : Rst} {F : List Nat} (h : FSt N w b A F) (hN : N ≤ 10000000000) :
    Calls Tryz.prog 76 #[.pointer (some ⟨b, 0, none⟩)] w fun e w' => e = .returned (.tuple #[.int .i64 A.beginR.1, .int .i64 A.beginR.2]) ∧ FAfter (N + 1) b A.beginS F w w' := by
  obtain ⟨R, hi, rfl, rfl, rfl⟩ := h
  have hwl : R.rst.works.length = R.works.length := by simp [RRep.rst]
  by_cases hl : R.works.length < 8
  · have e1 : R.rst.beginR = (R.begun + 1, 0) := by unfold Rst.beginR; rw [hwl, if_pos hl]; rfl
    have e2 : ∀ v, R.rst.beginS = (R.opened v).rst := fun v => by
      unfold Rst.beginS
      rw [hwl, if_pos hl]
      simp [RRep.rst, RRep.opened, RWk.tell]
    rw [e1]
    have hbn := hi.begunN
    refine (beginR_any R w hi.at_ hl ⟨hi.begun0, by omega⟩).mono ?_
    rintro e w' ⟨rfl, v, hc⟩
    rw [e2 v]
    refine ⟨rfl, hc.after.out ⟨hc.1, Nat.le_succ_of_le hi.allN, by simp [RRep.opened]; omega, fun x hx => ?_, by have := hi.begun0; show 0 ≤ R.begun + 1; omega, by show R.begun + 1 ≤ _; omega, Nat.le_succ_of_le hi.pinsN, hi.copies4, hi.now0⟩⟩
    rcases List.mem_append.1 hx with h1 | h1
    · exact hi.writes x h1
    · have : x = ⟨R.begun + 1, R.now, .slice none 0 0, []⟩ := by simpa using h1
      subst this
      simp
  · have e1 : R.rst.beginR = (0, 3) := by unfold Rst.beginR; rw [hwl, if_neg hl]
    have e2 : R.rst.beginS = R.rst := by unfold Rst.beginS; rw [hwl, if_neg hl]
    rw [e1, e2]
    refine (beginR_full R w hi.at_ (by omega)).mono ?_
    rintro e w' ⟨rfl, rfl⟩
    exact ⟨rfl, hi.same (Keeps.refl _ _)⟩

end Go.Proofs.YtfcocbcihhdbkaaGreatDoor

/- The document's store from outside: Pin, Unpin, Sweep, Look. -/
namespace Go.Proofs.YtfcocbcihhdbkaaGreatDoor
open Go.RowKit Go.Shelf

def Rst.there (A : Rst) (s : Int) : Bool := decide (A.floor ≤ s) && decide (s ≤ A.now)
def Rst.pinR (A : Rst) (s : Int) : Int := if A.there s = true then 0 else 5
def Rst.pinS (A : Rst) (s : Int) : Rst := if A.there s = true then { A with pins := A.pins ++ [s] } else A

theorem pin_f {N : Nat} {w : World} {b : Nat} {A : Rst} {F : List Nat} (s : Int) (h : FSt N w b A F) (hN : N ≤ 10000000000) :
    Calls Tryz.prog 130 #[.pointer (some ⟨b, 0, none⟩), .int .i64 s] w fun e w' => e = .returned (.int .i64 (A.pinR s)) ∧ FAfter (N + 1) b (A.pinS s) F w w' := by
  obtain ⟨R, hi, rfl, rfl, rfl⟩ := h
  have ht : R.rst.there s = R.there s := rfl
  cases hq : R.there s with
  | false =>
    have e1 : R.rst.pinR s = 5 := by unfold Rst.pinR; rw [ht, hq]; rfl
    have e2 : R.rst.pinS s = R.rst := by unfold Rst.pinS; rw [ht, hq]; rfl
    rw [e1, e2]
    refine (pinR_bad R s w hi.at_ hq).mono ?_
    rintro e w' ⟨rfl, rfl⟩
    exact ⟨rfl, hi.same (Keeps.refl _ _)⟩
  | true =>
    have e1 : R.rst.pinR s = 0 := by unfold Rst.pinR; rw [ht, hq]; rfl
    have e2 : ∀ v, R.rst.pinS s = (R.pinned v (R.pins ++ [s])).rst := fun v => by unfold Rst.pinS; rw [ht, hq]; rfl
    rw [e1]
    have hpn := hi.pinsN
    refine (pinR_ok R s w hi.at_ hq (by omega)).mono ?_
    rintro e w' ⟨rfl, v, hc⟩
    rw [e2 v]
    exact ⟨rfl, hc.after.out ⟨hc.1, Nat.le_succ_of_le hi.allN, hi.works8, hi.writes, hi.begun0, by have := hi.begunN; show R.begun ≤ _; omega, by simp [RRep.pinned]; omega, hi.copies4, hi.now0⟩⟩

def Rst.unpinS (A : Rst) (s : Int) : Rst := { A with pins := A.pins.erase s }

theorem unpin_f {N : Nat} {w : World} {b : Nat} {A : Rst} {F : List Nat} (s : Int) (h : FSt N w b A F) (hN : N ≤ 10000000000) :
    Calls Tryz.prog 131 #[.pointer (some ⟨b, 0, none⟩), .int .i64 s] w fun e w' => e = .returned (.int .i64 (unpinAns A.pins s)) ∧ FAfter (N + 1) b (A.unpinS s) F w w' := by
  obtain ⟨R, hi, rfl, rfl, rfl⟩ := h
  have hpn := hi.pinsN
  refine (unpinR_any R s w hi.at_ (by omega)).mono ?_
  rintro e w' ⟨rfl, v, hc⟩
  refine ⟨rfl, hc.after.out (R' := R.pinned v (R.pins.erase s)) ⟨hc.1, Nat.le_succ_of_le hi.allN, hi.works8, hi.writes, hi.begun0, by have := hi.begunN; show R.begun ≤ _; omega, ?_, hi.copies4, hi.now0⟩⟩
  have := List.length_erase_le (a := s) (l := R.pins)
  show (R.pins.erase s).length ≤ _
  omega

def Rst.held (A : Rst) : Int := lowL (lowL (lowL A.now (A.works.map (fun x => x.2.1))) A.pins) (A.copies.map (fun x => x.2.1))
def Rst.sweepS (A : Rst) : Rst := { A with floor := A.held, all := sweptL A.all A.held }

theorem rst_held (R : RRep) : R.rst.held = R.held := by
  unfold Rst.held RRep.held
  simp [RRep.rst, Function.comp_def, RWk.tell]

theorem sweep_f {N : Nat} {w : World} {b : Nat} {A : Rst} {F : List Nat} (h : FSt N w b A F) (hN : N ≤ 10000000000) :
    Calls Tryz.prog 132 #[.pointer (some ⟨b, 0, none⟩)] w fun e w' => e = .returned (.int .i64 (sweepN A.all A.held)) ∧ FAfter (N + 1) b A.sweepS F w w' := by
  obtain ⟨R, hi, rfl, rfl, rfl⟩ := h
  have h1 := hi.allN
  have h2 := hi.works8
  have h3 := hi.pinsN
  have h4 := hi.copies4
  have e2 : R.rst.sweepS = (R.swept R.held).rst := by unfold Rst.sweepS; rw [rst_held]; rfl
  rw [rst_held, e2]
  refine (sweepR_any R w hi.at_ (by omega) (by omega) (by omega) (by omega)).mono ?_
  rintro e w' ⟨rfl, hc⟩
  refine ⟨rfl, hc.after.out ⟨hc.1, ?_, hi.works8, hi.writes, hi.begun0, by have := hi.begunN; show R.begun ≤ _; omega, Nat.le_succ_of_le hi.pinsN, hi.copies4, hi.now0⟩⟩
  show (sweptL R.all R.held).length ≤ _
  unfold sweptL
  rw [List.length_map]
  omega

theorem look_f {N : Nat} {w : World} {b : Nat} {A : Rst} {F : List Nat} (h : FSt N w b A F) (hN : N ≤ 10000000000) :
    Calls Tryz.prog 31 #[.pointer (some ⟨b, 0, none⟩)] w fun e w' => e = .returned (.agg #[.int .i64 A.now, .int .i64 A.floor, .int .i64 A.works.length, .int .i64 A.pins.length, .int .i64 (countL A.all), .int .i64 A.copies.length]) ∧ FAfter (N + 1) b A F w w' := by
  obtain ⟨R, hi, rfl, rfl, rfl⟩ := h
  have h1 := hi.allN
  refine (lookR_any R w hi.at_ (by omega)).mono ?_
  rintro e w' ⟨rfl, hk⟩
  exact ⟨by simp [RRep.rst], hi.same hk⟩

end Go.Proofs.YtfcocbcihhdbkaaGreatDoor

/- The document's store from outside: Abort, Commit. -/
namespace Go.Proofs.YtfcocbcihhdbkaaGreatDoor
open Go.RowKit Go.Shelf

def Rst.find (A : Rst) (id : Int) : Option Nat := A.works.findIdx? (fun x => decide (x.1 = id))

theorem rst_find (R : RRep) (id : Int) : R.rst.find id = findL R.works id := by
  unfold Rst.find findL
  show (R.works.map RWk.tell).findIdx? _ = _
  rw [List.findIdx?_map]
  rfl

def Rst.abortR (A : Rst) (id : Int) : Int := if (A.find id).isSome = true then 0 else 1
def Rst.over (A : Rst) (k : Nat) : Rst := { A with works := A.works.eraseIdx k }
def Rst.abortS (A : Rst) (id : Int) : Rst := if (A.find id).isSome = true then A.over ((A.find id).getD 0) else A

theorem erase_map {α β : Type} (f : α → β) : ∀ (l : List α) (k : Nat), (l.eraseIdx k).map f = (l.map f).eraseIdx k
  | [], _ => rfl
  | _ :: _, 0 => rfl
  | a :: l, k + 1 => by simp [erase_map f l k]

theorem rst_over (R : RRep) (k : Nat) (v : Value) : (R.overed k v).rst = R.rst.over k := by
  simp [RRep.rst, RRep.overed, Rst.over, erase_map]

theorem FInv.over {N : Nat} {w w' : World} {R : RRep} {k : Nat} {v : Value} (hi : FInv N w R) (h : RefAt w' (R.overed k v)) : FInv (N + 1) w' (R.overed k v) := by
  have h1 : (R.works.eraseIdx k).length ≤ R.works.length := List.length_eraseIdx_le _ _
  have h2 := hi.works8
  exact ⟨h, Nat.le_succ_of_le hi.allN, by show (R.works.eraseIdx k).length ≤ 8; omega, fun x hx => hi.writes x (List.mem_of_mem_eraseIdx hx), hi.begun0, by have := hi.begunN; show R.begun ≤ _; omega, Nat.le_succ_of_le hi.pinsN, hi.copies4, hi.now0⟩

theorem abort_f {N : Nat} {w : World} {b : Nat} {A : Rst} {F : List Nat} (id : Int) (h : FSt N w b A F) (_hN : N ≤ 10000000000) :
    Calls Tryz.prog 129 #[.pointer (some ⟨b, 0, none⟩), .int .i64 id] w fun e w' => e = .returned (.int .i64 (A.abortR id)) ∧ FAfter (N + 1) b (A.abortS id) F w w' := by
  obtain ⟨R, hi, rfl, rfl, rfl⟩ := h
  have h2 := hi.works8
  cases hf : findL R.works id with
  | none =>
    have e1 : R.rst.abortR id = 1 := by unfold Rst.abortR; rw [rst_find, hf]; rfl
    have e2 : R.rst.abortS id = R.rst := by unfold Rst.abortS; rw [rst_find, hf]; rfl
    rw [e1, e2]
    refine (abortR_none R id w hi.at_ (by omega) hf).mono ?_
    rintro e w' ⟨rfl, rfl⟩
    exact ⟨rfl, hi.same (Keeps.refl _ _)⟩
  | some k =>
    have e1 : R.rst.abortR id = 0 := by unfold Rst.abortR; rw [rst_find, hf]; rfl
    have e2 : ∀ v, R.rst.abortS id = (R.overed k v).rst := fun v => by unfold Rst.abortS; rw [rst_find, hf, rst_over]; rfl
    rw [e1]
    refine (abortR_some R id k w hi.at_ (by omega) hf).mono ?_
    rintro e w' ⟨rfl, v, hc⟩
    rw [e2 v]
    exact ⟨rfl, RAfter.out (R' := R.overed k v) hc (hi.over hc.1)⟩

/-- a work's own -/
def Rst.work (A : Rst) (k : Nat) : Int × Int × List RecB := (A.works[k]?).getD (0, 0, [])
def Rst.commitAt (A : Rst) (x : Int × Int × List RecB) : Int × Int := if x.2.2.length = 0 then (x.2.1, 0) else if 1000000000 ≤ A.now then (0, 3) else if clashL A.all x.2.1 x.2.2 = true then (0, 4) else (A.now + 1, 0)
def Rst.committed (A : Rst) (k : Nat) (x : Int × Int × List RecB) : Rst := { A with works := A.works.eraseIdx k, now := A.now + 1, all := A.all ++ putsL x.2.2 (A.now + 1) }
def Rst.commitTo (A : Rst) (k : Nat) (x : Int × Int × List RecB) : Rst := if x.2.2.length = 0 then A.over k else if 1000000000 ≤ A.now then A else if clashL A.all x.2.1 x.2.2 = true then A.over k else A.committed k x
def Rst.commitR (A : Rst) (id : Int) : Int × Int := if (A.find id).isSome = true then A.commitAt (A.work ((A.find id).getD 0)) else (0, 1)
def Rst.commitS (A : Rst) (id : Int) : Rst := if (A.find id).isSome = true then A.commitTo ((A.find id).getD 0) (A.work ((A.find id).getD 0)) else A

theorem rst_work (R : RRep) {k : Nat} {x : RWk} (hx : R.works[k]? = some x) : R.rst.work k = (x.id, x.began, x.writes) := by
  unfold Rst.work
  show ((R.works.map RWk.tell)[k]?).getD _ = _
  rw [List.getElem?_map, hx]
  rfl

theorem commit_f {N : Nat} {w : World} {b : Nat} {A : Rst} {F : List Nat} (id : Int) (h : FSt N w b A F) (hN : N ≤ 10000000000) :
    Calls Tryz.prog 128 #[.pointer (some ⟨b, 0, none⟩), .int .i64 id] w fun e w' => e = .returned (.tuple #[.int .i64 (A.commitR id).1, .int .i64 (A.commitR id).2]) ∧ FAfter (N + 100) b (A.commitS id) F w w' := by
  obtain ⟨R, hi, rfl, rfl, rfl⟩ := h
  have h2 := hi.works8
  have h1 := hi.allN
  have hbn := hi.begunN
  have more : ∀ {A' : Rst} {w' : World}, FAfter (N + 1) R.b A' R.fp w w' → FAfter (N + 100) R.b A' R.fp w w' := fun ⟨F', ⟨R', g1, g2⟩, g3⟩ => ⟨F', ⟨R', g1.more (by omega), g2⟩, g3⟩
  cases hf : findL R.works id with
  | none =>
    have e1 : R.rst.commitR id = (0, 1) := by unfold Rst.commitR; rw [rst_find, hf]; rfl
    have e2 : R.rst.commitS id = R.rst := by unfold Rst.commitS; rw [rst_find, hf]; rfl
    rw [e1, e2]
    refine (commitR_none R id w hi.at_ (by omega) hf).mono ?_
    rintro e w' ⟨rfl, rfl⟩
    exact ⟨rfl, more (hi.same (Keeps.refl _ _))⟩
  | some k =>
    obtain ⟨x, hx, -⟩ := findL_some hf
    have hxm : x ∈ R.works := List.mem_of_getElem? hx
    have hw := hi.writes x hxm
    have e1 : R.rst.commitR id = Go.Proofs.YtfcocbcihhdbkaaGreatDoor.commitR R x := by
      unfold Rst.commitR
      rw [rst_find, hf]
      show R.rst.commitAt (R.rst.work k) = _
      rw [rst_work R hx]
      rfl
    have e2 : R.rst.commitS id = R.rst.commitTo k (x.id, x.began, x.writes) := by
      unfold Rst.commitS
      rw [rst_find, hf]
      show R.rst.commitTo k (R.rst.work k) = _
      rw [rst_work R hx]
    rw [e1, e2]
    refine (commitR_some R id k x w hi.at_ (by omega) hf hx (by omega) (by omega) hi.now0).mono ?_
    rintro e w' ⟨rfl, hp⟩
    refine ⟨rfl, ?_⟩
    unfold CommitRPost at hp
    unfold Rst.commitTo
    show FAfter _ _ (if x.writes.length = 0 then _ else if 1000000000 ≤ R.now then _ else if clashL R.all x.began x.writes = true then _ else _) _ _ _
    by_cases c0 : x.writes.length = 0
    · rw [if_pos c0] at hp ⊢
      obtain ⟨v, hc⟩ := hp
      rw [← rst_over R k v]
      exact more (hc.out (hi.over hc.1))
    · rw [if_neg c0] at hp ⊢
      by_cases c1 : 1000000000 ≤ R.now
      · rw [if_pos c1] at hp ⊢
        exact hp.out ⟨hp.1, by omega, hi.works8, hi.writes, hi.begun0, by omega, by have := hi.pinsN; omega, hi.copies4, hi.now0⟩
      · rw [if_neg c1] at hp ⊢
        by_cases c2 : clashL R.all x.began x.writes = true
        · rw [if_pos c2] at hp ⊢
          obtain ⟨v, hc⟩ := hp
          rw [← rst_over R k v]
          exact more (hc.out (hi.over hc.1))
        · rw [if_neg c2] at hp ⊢
          obtain ⟨v, va, hc⟩ := hp
          have e3 : R.rst.committed k (x.id, x.began, x.writes) = (R.done k x v va).rst := by simp [Rst.committed, RRep.rst, RRep.done, erase_map]
          rw [e3]
          have h3 : (R.works.eraseIdx k).length ≤ R.works.length := List.length_eraseIdx_le _ _
          exact hc.out ⟨hc.1, by simp [RRep.done, putsL]; omega, by show (R.works.eraseIdx k).length ≤ 8; omega, fun y hy => hi.writes y (List.mem_of_mem_eraseIdx hy), hi.begun0, by show R.begun ≤ _; omega, by have := hi.pinsN; show R.pins.length ≤ _; omega, hi.copies4, by have := hi.now0; show 0 ≤ R.now + 1; omega⟩

end Go.Proofs.YtfcocbcihhdbkaaGreatDoor

/- The document's store from outside: Get, Scan, Write. -/
namespace Go.Proofs.YtfcocbcihhdbkaaGreatDoor
open Go.RowKit Go.Shelf

def Rst.seen (A : Rst) (x : Int × Int × List RecB) : List RecB := seesL A.all x.2.1 x.2.2
def Rst.getR (A : Rst) (id : Int) (key : ByteArray) : ByteArray × Int := if (A.find id).isSome = true then (if keyB key = true then getOf (A.seen (A.work ((A.find id).getD 0))) key else (ByteArray.empty, 2)) else (ByteArray.empty, 1)

theorem get_f {N : Nat} {w : World} {b : Nat} {A : Rst} {F : List Nat} (id : Int) (key : ByteArray) (h : FSt N w b A F) (hN : N ≤ 10000000000) (hk : key.size ≤ maxLen) :
    Calls Tryz.prog 126 #[.pointer (some ⟨b, 0, none⟩), .int .i64 id, .string key] w fun e w' => e = .returned (.tuple #[.string (A.getR id key).1, .int .i64 (A.getR id key).2]) ∧ FAfter (N + 1) b A F w w' := by
  obtain ⟨R, hi, rfl, rfl, rfl⟩ := h
  have h1 := hi.allN
  have h2 := hi.works8
  cases hf : findL R.works id with
  | none =>
    have e1 : R.rst.getR id key = (ByteArray.empty, 1) := by unfold Rst.getR; rw [rst_find, hf]; rfl
    rw [e1]
    refine (getR_none R id key w hi.at_ (by omega) hf).mono ?_
    rintro e w' ⟨rfl, hk'⟩
    exact ⟨rfl, hi.same hk'⟩
  | some k =>
    obtain ⟨x, hx, -⟩ := findL_some hf
    have hw := hi.writes x (List.mem_of_getElem? hx)
    have e1 : R.rst.getR id key = if keyB key = true then getOf (seesL R.all x.began x.writes) key else (ByteArray.empty, 2) := by
      unfold Rst.getR
      rw [rst_find, hf]
      show (if keyB key = true then getOf (R.rst.seen (R.rst.work k)) key else (ByteArray.empty, 2)) = _
      rw [rst_work R hx]
      rfl
    rw [e1]
    refine (getR_some R id key k x w hi.at_ (by omega) (by omega) hf hx (by omega) hk).mono ?_
    rintro e w' ⟨rfl, hk'⟩
    exact ⟨rfl, hi.same hk'⟩

/-- a scan's pairs and its answer -/
def Rst.scanR (A : Rst) (id : Int) (from_ : ByteArray) (most : Int) : List (ByteArray × ByteArray) × Int := if (A.find id).isSome = true then (if from_.size ≤ 10 then (scanOf (A.seen (A.work ((A.find id).getD 0))) from_ most, 0) else ([], 2)) else ([], 1)

theorem scan_f {N : Nat} {w : World} {b : Nat} {A : Rst} {F : List Nat} (id : Int) (from_ : ByteArray) (most : Int) (h : FSt N w b A F) (hN : N ≤ 10000000000) (hs : from_.size ≤ maxLen) (hm1 : -9223372036854775808 ≤ most) (hm2 : most ≤ 9223372036854775807) :
    Calls Tryz.prog 140 #[.pointer (some ⟨b, 0, none⟩), .int .i64 id, .string from_, .int .i64 most] w fun e w' => ∃ v, e = .returned (.tuple #[v, .int .i64 (A.scanR id from_ most).2]) ∧ PairsMade w w' v (A.scanR id from_ most).1 ∧ FAfter (N + 1) b A F w w' := by
  obtain ⟨R, hi, rfl, rfl, rfl⟩ := h
  have h1 := hi.allN
  have h2 := hi.works8
  cases hf : findL R.works id with
  | none =>
    have e1 : R.rst.scanR id from_ most = ([], 1) := by unfold Rst.scanR; rw [rst_find, hf]; rfl
    rw [e1]
    refine (scanR_none R id from_ most w hi.at_ (by omega) hf).mono ?_
    rintro e w' ⟨rfl, hk'⟩
    exact ⟨_, rfl, Made.nil hk', hi.same hk'⟩
  | some k =>
    obtain ⟨x, hx, -⟩ := findL_some hf
    have hw := hi.writes x (List.mem_of_getElem? hx)
    by_cases hc : from_.size ≤ 10
    · have e1 : R.rst.scanR id from_ most = (scanOf (seesL R.all x.began x.writes) from_ most, 0) := by
        unfold Rst.scanR
        rw [rst_find, hf]
        show (if from_.size ≤ 10 then (scanOf (R.rst.seen (R.rst.work k)) from_ most, (0 : Int)) else ([], 2)) = _
        rw [rst_work R hx, if_pos hc]
        rfl
      rw [e1]
      refine (scanR_some R id from_ most k x w hi.at_ (by omega) (by omega) hf hx (by omega) hc hm1 hm2).mono ?_
      rintro e w' ⟨v, rfl, hM⟩
      exact ⟨v, rfl, hM, hi.same hM.keep⟩
    · have e1 : R.rst.scanR id from_ most = ([], 2) := by
        unfold Rst.scanR
        rw [rst_find, hf]
        show (if from_.size ≤ 10 then _ else (([] : List (ByteArray × ByteArray)), (2 : Int))) = _
        rw [if_neg hc]
      rw [e1]
      refine (scanR_text R id from_ most k w hi.at_ (by omega) hf (by omega) hs).mono ?_
      rintro e w' ⟨rfl, hk'⟩
      exact ⟨_, rfl, Made.nil hk', hi.same hk'⟩

end Go.Proofs.YtfcocbcihhdbkaaGreatDoor

/- The document's records: how many there are when one is placed. -/
namespace Go.Proofs.YtfcocbcihhdbkaaGreatDoor
open Go.RowKit Go.Shelf

theorem placed_le (l : List RecB) (r : RecB) : (placedL l r).length ≤ l.length + 1 := by
  have h := placeTo_length l r
  unfold placedL
  cases hb : (placeTo l r).2 with
  | true => rw [hb] at h; simpa using h
  | false => rw [hb] at h; simp at h ⊢; exact h

theorem placeStep_le (r x : RecB) (s : List RecB × Bool) : (placeStep r s x).1.length + s.2.toNat ≤ s.1.length + 1 + (placeStep r s x).2.toNat ∧ (s.2 = true → (placeStep r s x).2 = true) := by
  obtain ⟨o, t⟩ := s
  cases t <;> simp only [placeStep] <;> (repeat' split) <;> simp_all

theorem placeStep_had (r x : RecB) (s : List RecB × Bool) (h : x.key = r.key) : (placeStep r s x).2 = true ∧ (placeStep r s x).1.length + s.2.toNat = s.1.length + 1 := by
  obtain ⟨o, t⟩ := s
  cases t <;> simp [placeStep, h, ltK_irrefl]

theorem placeTo_more (r : RecB) : ∀ (l : List RecB) (s : List RecB × Bool), (s.2 = true → (l.foldl (placeStep r) s).2 = true) ∧ (l.foldl (placeStep r) s).1.length + s.2.toNat ≤ s.1.length + l.length + (l.foldl (placeStep r) s).2.toNat := by
  intro l
  induction l with
  | nil => intro s; simp
  | cons x l ih =>
    intro s
    obtain ⟨i1, i2⟩ := ih (placeStep r s x)
    have h2 := placeStep_le r x s
    refine ⟨fun hs => i1 (h2.2 hs), ?_⟩
    simp only [List.foldl_cons, List.length_cons]
    omega

/-- a key that is there is in its place, and it is not one more -/
theorem placeTo_had (r : RecB) : ∀ (l : List RecB) (s : List RecB × Bool), (∃ x ∈ l, x.key = r.key) → (l.foldl (placeStep r) s).2 = true ∧ (l.foldl (placeStep r) s).1.length + s.2.toNat ≤ s.1.length + l.length
  | [], s, h => by obtain ⟨x, hx, _⟩ := h; cases hx
  | y :: l, s, h => by
    simp only [List.foldl_cons, List.length_cons]
    by_cases hy : y.key = r.key
    · obtain ⟨a1, a2⟩ := placeStep_had r y s hy
      obtain ⟨b1, b2⟩ := placeTo_more r l (placeStep r s y)
      have b3 := b1 a1
      rw [a1, b3] at b2
      refine ⟨b3, ?_⟩
      simp only [Bool.toNat_true] at b2
      omega
    · have h2 := placeStep_le r y s
      obtain ⟨i1, i2⟩ := placeTo_had r l (placeStep r s y) (by
        obtain ⟨x, hx, hk⟩ := h
        rcases List.mem_cons.1 hx with rfl | hx
        · exact absurd hk hy
        · exact ⟨x, hx, hk⟩)
      refine ⟨i1, ?_⟩
      omega

theorem placed_had {l : List RecB} {r : RecB} (h : (hasL l r.key).isSome = true) : (placedL l r).length ≤ l.length := by
  obtain ⟨x, hx⟩ := Option.isSome_iff_exists.1 h
  have h1 := List.mem_of_find?_eq_some hx
  have h2 := List.find?_some hx
  obtain ⟨a1, a2⟩ := placeTo_had r l ([], false) ⟨x, h1, of_decide_eq_true h2⟩
  have a1' : (placeTo l r).2 = true := a1
  have a2' : (placeTo l r).1.length ≤ l.length := by simpa [placeTo] using a2
  unfold placedL
  rw [if_pos a1']
  exact a2'

theorem placed_30 {l : List RecB} {r : RecB} (h30 : l.length ≤ 30) (h : (hasL l r.key).isSome = true ∨ l.length < 30) : (placedL l r).length ≤ 30 := by
  rcases h with h | h
  · exact Nat.le_trans (placed_had h) h30
  · have := placed_le l r
    omega

end Go.Proofs.YtfcocbcihhdbkaaGreatDoor

/- The document's store from outside: Write. -/
namespace Go.Proofs.YtfcocbcihhdbkaaGreatDoor
open Go.RowKit Go.Shelf

def Rst.writeAt (x : Int × Int × List RecB) (r : RecB) : Int := if (keyB r.key && valB r.value) = true then (if (hasL x.2.2 r.key).isSome = true ∨ x.2.2.length < 30 then 0 else 3) else 2
def Rst.writeR (A : Rst) (id : Int) (r : RecB) : Int := if (A.find id).isSome = true then Rst.writeAt (A.work ((A.find id).getD 0)) r else 1
def Rst.wrote (A : Rst) (k : Nat) (r : RecB) : Rst := { A with works := A.works.set k ((A.work k).1, (A.work k).2.1, placedL (A.work k).2.2 r) }
def Rst.writeS (A : Rst) (id : Int) (r : RecB) : Rst := if A.writeR id r = 0 then A.wrote ((A.find id).getD 0) r else A

theorem write_f {N : Nat} {w : World} {b : Nat} {A : Rst} {F : List Nat} (id : Int) (r : RecB) (h : FSt N w b A F) (_hN : N ≤ 10000000000) (hk : r.key.size ≤ maxLen) (hv : r.value.size ≤ maxLen) :
    Calls Tryz.prog 127 #[.pointer (some ⟨b, 0, none⟩), .int .i64 id, r.val] w fun e w' => e = .returned (.int .i64 (A.writeR id r)) ∧ FAfter (N + 1) b (A.writeS id r) F w w' := by
  obtain ⟨R, hi, rfl, rfl, rfl⟩ := h
  have h2 := hi.works8
  have same : R.rst.writeR id r ≠ 0 → R.rst.writeS id r = R.rst := fun h => if_neg h
  cases hf : findL R.works id with
  | none =>
    have e1 : R.rst.writeR id r = 1 := by unfold Rst.writeR; rw [rst_find, hf]; rfl
    rw [same (by rw [e1]; decide), e1]
    refine (writeR_none R id r w hi.at_ (by omega) hf).mono ?_
    rintro e w' ⟨rfl, hk'⟩
    exact ⟨rfl, hi.same hk'⟩
  | some k =>
    obtain ⟨x, hx, -⟩ := findL_some hf
    have hw := hi.writes x (List.mem_of_getElem? hx)
    have e0 : R.rst.writeR id r = Rst.writeAt (x.id, x.began, x.writes) r := by
      unfold Rst.writeR
      rw [rst_find, hf]
      show Rst.writeAt (R.rst.work k) r = _
      rw [rst_work R hx]
    cases hb : (keyB r.key && valB r.value) with
    | false =>
      have e1 : R.rst.writeR id r = 2 := by rw [e0]; unfold Rst.writeAt; rw [hb]; rfl
      rw [same (by rw [e1]; decide), e1]
      refine (writeR_text R id r k w hi.at_ (by omega) hf hk hv hb).mono ?_
      rintro e w' ⟨rfl, hk'⟩
      exact ⟨rfl, hi.same hk'⟩
    | true =>
      obtain ⟨hb1, hb2⟩ := Bool.and_eq_true_iff.1 hb
      by_cases hc : (hasL x.writes r.key).isSome = true ∨ x.writes.length < 30
      · have e1 : R.rst.writeR id r = 0 := by rw [e0]; unfold Rst.writeAt; rw [if_pos hb]; exact if_pos hc
        have e2 : ∀ v, R.rst.writeS id r = (R.wrote k x v (placedL x.writes r)).rst := fun v => by
          unfold Rst.writeS
          rw [if_pos e1, rst_find, hf]
          show R.rst.wrote k r = _
          unfold Rst.wrote
          rw [rst_work R hx]
          simp [RRep.rst, RRep.wrote, RWk.wrote, RWk.tell, List.map_set]
        rw [e1]
        refine (writeR_ok R id r k x w hi.at_ (by omega) hf hx hk hv hb1 hb2 (by omega) hc).mono ?_
        rintro e w' ⟨rfl, v, hcc⟩
        rw [e2 v]
        refine ⟨rfl, hcc.after.out ⟨hcc.1, Nat.le_succ_of_le hi.allN, by simp [RRep.wrote]; omega, fun y hy => ?_, hi.begun0, by have := hi.begunN; show R.begun ≤ _; omega, Nat.le_succ_of_le hi.pinsN, hi.copies4, hi.now0⟩⟩
        rcases List.mem_or_eq_of_mem_set hy with h1 | h1
        · exact hi.writes y h1
        · subst h1
          exact placed_30 hw hc
      · have e1 : R.rst.writeR id r = 3 := by rw [e0]; unfold Rst.writeAt; rw [if_pos hb]; exact if_neg hc
        rw [same (by rw [e1]; decide), e1]
        refine (writeR_full R id r k x w hi.at_ (by omega) hf hx hk hv hb1 hb2 (by omega) (by
          cases hq : hasL x.writes r.key with
          | none => rfl
          | some y => exact absurd (.inl (by rw [hq]; rfl)) hc) (by omega)).mono ?_
        rintro e w' ⟨rfl, hk'⟩
        exact ⟨rfl, hi.same hk'⟩

end Go.Proofs.YtfcocbcihhdbkaaGreatDoor

/- Lists of records that rise; what a work sees of all that was ever put. -/
namespace Go.Proofs.YtfcocbcihhdbkaaGreatDoor
open Go.RowKit Go.Shelf

/-! ### rising records -/
def RRises (l : List RecB) : Prop := l.Pairwise (fun a b => ltK a.key b.key = true)

theorem place_in (r : RecB) : ∀ (l s : List RecB), l.foldl (placeStep r) (s, true) = (s ++ l.filter (fun x => decide (x.key ≠ r.key)), true)
  | [], s => by simp
  | x :: l, s => by
    rw [List.foldl_cons]
    by_cases h : x.key = r.key
    · have e : placeStep r (s, true) x = (s, true) := by simp [placeStep, h]
      rw [e, place_in r l s]
      simp [h]
    · have e : placeStep r (s, true) x = (s ++ [x], true) := by simp [placeStep, h]
      rw [e, place_in r l (s ++ [x])]
      simp [h]

theorem place_out (r : RecB) : ∀ (l s : List RecB), l.foldl (placeStep r) (s, false) = if l.dropWhile (fun x => ltK x.key r.key) = [] then (s ++ l.takeWhile (fun x => ltK x.key r.key), false) else (s ++ l.takeWhile (fun x => ltK x.key r.key) ++ r :: (l.dropWhile (fun x => ltK x.key r.key)).filter (fun x => decide (x.key ≠ r.key)), true)
  | [], s => by simp
  | x :: l, s => by
    rw [List.foldl_cons]
    cases h : ltK x.key r.key with
    | true =>
      have hne : x.key ≠ r.key := fun e => by rw [e, ltK_irrefl] at h; cases h
      have e : placeStep r (s, false) x = (s ++ [x], false) := by simp [placeStep, h, hne]
      rw [e, place_out r l (s ++ [x])]
      simp [h]
    | false =>
      by_cases hk : x.key = r.key
      · have e : placeStep r (s, false) x = (s ++ [r], true) := by simp [placeStep, hk, ltK_irrefl]
        rw [e, place_in r l (s ++ [r])]
        simp [hk, ltK_irrefl]
      · have e : placeStep r (s, false) x = (s ++ [r] ++ [x], true) := by simp [placeStep, h, hk]
        rw [e, place_in r l (s ++ [r] ++ [x])]
        simp [h, hk]

theorem placedL_eq (l : List RecB) (r : RecB) : placedL l r = l.takeWhile (fun x => ltK x.key r.key) ++ r :: (l.dropWhile (fun x => ltK x.key r.key)).filter (fun x => decide (x.key ≠ r.key)) := by
  unfold placedL placeTo
  rw [place_out r l []]
  by_cases h : l.dropWhile (fun x => ltK x.key r.key) = []
  · rw [if_pos h, h]
    simp
  · rw [if_neg h]
    simp

theorem mem_takeWhile {α : Type} {p : α → Bool} : ∀ {l : List α} {x : α}, x ∈ l.takeWhile p → p x = true ∧ x ∈ l
  | [], x, h => by simp at h
  | a :: l, x, h => by
    rw [List.takeWhile_cons] at h
    cases ha : p a with
    | true =>
      rw [ha] at h
      rcases List.mem_cons.1 h with rfl | h
      · exact ⟨ha, by simp⟩
      · exact ⟨(mem_takeWhile h).1, List.mem_cons_of_mem _ (mem_takeWhile h).2⟩
    | false => rw [ha] at h; simp at h

theorem placed_has (l : List RecB) (r : RecB) (k : ByteArray) : hasL (placedL l r) k = if r.key = k then some r else hasL l k := by
  rw [placedL_eq]
  unfold hasL
  rw [List.find?_append, List.find?_cons]
  by_cases h : r.key = k
  · rw [if_pos h]
    have h1 : (l.takeWhile (fun x => ltK x.key r.key)).find? (fun x => decide (x.key = k)) = none := by
      rw [List.find?_eq_none]
      intro x hx hk
      have hk' : x.key = k := by simpa using hk
      have := (mem_takeWhile hx).1
      rw [hk', ← h, ltK_irrefl] at this
      cases this
    rw [h1]
    simp [h]
  · rw [if_neg h]
    have h2 : decide (r.key = k) = false := by simp [h]
    rw [h2]
    conv => rhs; rw [← List.takeWhile_append_dropWhile (p := fun x : RecB => ltK x.key r.key) (l := l), List.find?_append]
    congr 1
    show List.find? _ (List.filter _ _) = _
    rw [List.find?_filter]
    congr 1
    funext x
    by_cases hx : x.key = k
    · have : x.key ≠ r.key := fun e => h (e ▸ hx)
      simp [hx, Ne.symm h]
    · simp [hx]

theorem dropWhile_ge {r : RecB} : ∀ {l : List RecB}, RRises l → ∀ x ∈ l.dropWhile (fun x => ltK x.key r.key), ltK x.key r.key = false
  | [], _, x, h => by simp at h
  | a :: l, hr, x, h => by
    obtain ⟨h1, h2⟩ := List.pairwise_cons.1 hr
    rw [List.dropWhile_cons] at h
    cases ha : ltK a.key r.key with
    | true =>
      rw [ha] at h
      exact dropWhile_ge h2 x h
    | false =>
      rw [ha] at h
      rcases List.mem_cons.1 h with rfl | h
      · exact ha
      · cases hx : ltK x.key r.key with
        | false => rfl
        | true =>
          have := ltK_trans (h1 x h) hx
          rw [ha] at this
          cases this

theorem placed_rises {l : List RecB} (h : RRises l) (r : RecB) : RRises (placedL l r) := by
  rw [placedL_eq]
  have hs1 : RRises (l.takeWhile (fun x => ltK x.key r.key)) := h.sublist (List.takeWhile_sublist _)
  have hs2 : RRises ((l.dropWhile (fun x => ltK x.key r.key)).filter (fun x => decide (x.key ≠ r.key))) := h.sublist (List.filter_sublist.trans (List.dropWhile_sublist _))
  have hgt : ∀ y ∈ (l.dropWhile (fun x => ltK x.key r.key)).filter (fun x => decide (x.key ≠ r.key)), ltK r.key y.key = true := fun y hy => by
    obtain ⟨h1, h2⟩ := List.mem_filter.1 hy
    have h3 := dropWhile_ge h y h1
    have h4 : y.key ≠ r.key := by simpa using h2
    cases h5 : ltK r.key y.key with
    | true => rfl
    | false => exact absurd (ltK_total h3 h5) h4
  refine List.pairwise_append.2 ⟨hs1, List.pairwise_cons.2 ⟨hgt, hs2⟩, fun x hx y hy => ?_⟩
  have h1 := (mem_takeWhile hx).1
  rcases List.mem_cons.1 hy with rfl | hy
  · exact h1
  · exact ltK_trans h1 (hgt y hy)

theorem has_some {l : List RecB} {k : ByteArray} {r : RecB} (h : hasL l k = some r) : r ∈ l ∧ r.key = k := by
  unfold hasL at h
  exact ⟨List.mem_of_find?_eq_some h, by simpa using List.find?_some h⟩

theorem has_of_mem : ∀ {l : List RecB}, RRises l → ∀ {r : RecB}, r ∈ l → hasL l r.key = some r
  | [], _, r, h => by cases h
  | a :: l, hr, r, h => by
    obtain ⟨h1, h2⟩ := List.pairwise_cons.1 hr
    unfold hasL
    rw [List.find?_cons]
    rcases List.mem_cons.1 h with rfl | h
    · simp
    · have hne : a.key ≠ r.key := fun e => by
        have := h1 r h
        rw [e, ltK_irrefl] at this
        cases this
      have : decide (a.key = r.key) = false := by simp [hne]
      rw [this]
      exact has_of_mem h2 h

theorem has_isSome (l : List RecB) (k : ByteArray) : (hasL l k).isSome = true ↔ k ∈ l.map RecB.key := by
  unfold hasL
  rw [List.find?_isSome]
  simp

theorem stand_has {l : List RecB} (h : RRises l) (k : ByteArray) : hasL (standingL l) k = (hasL l k).filter (fun r => !r.gone) := by
  have hs : RRises (standingL l) := h.sublist List.filter_sublist
  apply Option.ext
  intro r
  rw [Option.filter_eq_some_iff]
  constructor
  · intro hh
    obtain ⟨h1, h2⟩ := has_some hh
    obtain ⟨h3, h4⟩ := List.mem_filter.1 h1
    exact ⟨h2 ▸ has_of_mem h h3, h4⟩
  · rintro ⟨h1, h2⟩
    obtain ⟨h3, h4⟩ := has_some h1
    rw [← h4]
    exact has_of_mem hs (List.mem_filter.2 ⟨h3, h2⟩)

theorem fold_rises {α : Type} (f : α → RecB) : ∀ (l : List α) {s : List RecB}, RRises s → RRises (l.foldl (fun a v => placedL a (f v)) s)
  | [], _, h => h
  | v :: l, _, h => fold_rises f l (placed_rises h (f v))

theorem fold_has {α : Type} (f : α → RecB) (k : ByteArray) : ∀ (l : List α) (s : List RecB), hasL (l.foldl (fun a v => placedL a (f v)) s) k = (((l.filter (fun v => decide ((f v).key = k))).getLast?).map f).or (hasL s k)
  | [], s => by simp
  | v :: l, s => by
    rw [List.foldl_cons, fold_has f k l, placed_has]
    by_cases h : (f v).key = k
    · rw [if_pos h, List.filter_cons, if_pos (by simp [h]), List.getLast?_cons]
      cases (l.filter (fun v => decide ((f v).key = k))).getLast? <;> simp
    · rw [if_neg h, List.filter_cons, if_neg (by simp [h])]

/-- what lies between, and what a work has written over it -/
theorem sees_rises (all : List RVer) (bg : Int) {rs : List RecB} : RRises (rs.foldl placedL (betweenL all (-1) bg)) :=
  fold_rises id rs (fold_rises RVer.r _ List.Pairwise.nil)

theorem last_has {rs : List RecB} (h : RRises rs) (k : ByteArray) : (rs.filter (fun v => decide (v.key = k))).getLast? = hasL rs k := by
  have hl : (rs.filter (fun v => decide (v.key = k))).length ≤ 1 := by
    have hs : RRises (rs.filter (fun v => decide (v.key = k))) := h.sublist List.filter_sublist
    have hk : ∀ x ∈ rs.filter (fun v => decide (v.key = k)), x.key = k := fun x hx => by simpa using (List.mem_filter.1 hx).2
    revert hs hk
    cases rs.filter (fun v => decide (v.key = k)) with
    | nil => intros; simp
    | cons a t =>
      cases t with
      | nil => intros; simp
      | cons b t =>
        intro hs hk
        have h1 := (List.pairwise_cons.1 hs).1 b (by simp)
        rw [hk a (by simp), hk b (by simp), ltK_irrefl] at h1
        cases h1
  unfold hasL
  rw [← List.head?_filter]
  revert hl
  cases rs.filter (fun v => decide (v.key = k)) with
  | nil => intro; rfl
  | cons a t =>
    cases t with
    | nil => intro; rfl
    | cons b t => intro hl; simp at hl

theorem sees_has (all : List RVer) (bg : Int) {rs : List RecB} (h : RRises rs) (k : ByteArray) :
    hasL (seesL all bg rs) k = ((hasL rs k).or ((((all.filter (inB (-1) bg)).filter (fun v => decide (v.r.key = k))).getLast?).map RVer.r)).filter (fun r => !r.gone) := by
  unfold seesL
  rw [stand_has (sees_rises all bg)]
  congr 1
  have h1 := fold_has id k rs (betweenL all (-1) bg)
  have h2 := fold_has RVer.r k (all.filter (inB (-1) bg)) []
  show hasL (rs.foldl (fun a v => placedL a (id v)) (betweenL all (-1) bg)) k = _
  rw [h1]
  show (((rs.filter (fun v => decide (v.key = k))).getLast?).map id).or _ = _
  rw [last_has h, Option.map_id, id_eq]
  unfold betweenL
  rw [h2]
  simp [hasL]

theorem seesL_rises (all : List RVer) (bg : Int) (rs : List RecB) : RRises (seesL all bg rs) := (sees_rises all bg).sublist List.filter_sublist

end Go.Proofs.YtfcocbcihhdbkaaGreatDoor
