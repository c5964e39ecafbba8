import Derived.Test.YtfcocbcihhdbkaaGreatDoorM13

/- The document's own store: how it lies in memory; what is looked up in it. -/
namespace Go.Proofs.YtfcocbcihhdbkaaGreatDoor
open Go.RowKit Go.Shelf

/-- what a state has put under a key -/
structure RVer where
  state : Int
  r : RecB
  thrown : Bool

def RVer.cells (v : RVer) : List Value := [.int .i64 v.state, .string v.r.key, .string v.r.value, .bool v.r.gone, .bool v.thrown]
theorem RVer.len (v : RVer) : v.cells.length = 5 := rfl

/-- a work, with its place -/
structure RWk where
  id : Int
  began : Int
  sl : Value
  writes : List RecB

def RWk.cells (x : RWk) : List Value := [.int .i64 x.id, .int .i64 x.began, x.sl]
def RWk.val (x : RWk) : Value := .agg #[.int .i64 x.id, .int .i64 x.began, x.sl]
theorem RWk.len (x : RWk) : x.cells.length = 3 := rfl

/-- a copying, with its place -/
structure RCp where
  id : Int
  least : Int
  sl : Value
  blks : List Nat
  pieces : List ByteArray

def RCp.cells (x : RCp) : List Value := [.int .i64 x.id, .int .i64 x.least, x.sl]
theorem RCp.len (x : RCp) : x.cells.length = 3 := rfl

def pinCells (n : Int) : List Value := [.int .i64 n]
theorem pin_len (n : Int) : (pinCells n).length = 1 := rfl

/-- the document's store, with its places -/
structure RRep where
  b : Nat
  va : Value
  all : List RVer
  now : Int
  floor : Int
  vw : Value
  works : List RWk
  begun : Int
  vp : Value
  pins : List Int
  vc : Value
  copies : List RCp
  started : Int

def RRep.top (R : RRep) : Array Value := #[R.va, .int .i64 R.now, .int .i64 R.floor, R.vw, .int .i64 R.begun, R.vp, R.vc, .int .i64 R.started]

/-- its blocks -/
def RRep.fp (R : RRep) : List Nat := R.b :: (R.va.ownBlock.toList ++ R.vw.ownBlock.toList ++ R.vp.ownBlock.toList ++ R.vc.ownBlock.toList ++ R.works.flatMap (fun x => x.sl.ownBlock.toList) ++ R.copies.flatMap (fun x => x.blks))

/-- block k holds elements of type e -/
def TypeIs (w : World) (k : Nat) (e : TypeId) : Prop := ∃ cur, w.heap[k]? = some (.cells cur e (0, 0))

structure RefAt (w : World) (R : RRep) : Prop where
  top : w.heap[R.b]? = some (.cells R.top 79 (0, 0))
  all : Row w 152 5 R.va R.all.length (R.all.flatMap RVer.cells)
  works : Row w 219 3 R.vw R.works.length (R.works.flatMap RWk.cells)
  writes : ∀ x ∈ R.works, RecsAt w x.sl x.writes
  pins : Row w 3 1 R.vp R.pins.length (R.pins.flatMap pinCells)
  copies : Row w 270 3 R.vc R.copies.length (R.copies.flatMap RCp.cells)
  pieces : ∀ x ∈ R.copies, Seg x.blks w x.sl x.pieces ∧ ∀ k ∈ x.blks, TypeIs w k 9

theorem TypeIs.lt {w : World} {k : Nat} {e : TypeId} (h : TypeIs w k e) : k < w.heap.size := by
  obtain ⟨cur, h⟩ := h
  exact (Array.getElem?_eq_some_iff.1 h).1

theorem TypeIs.kept {w w' : World} {k : Nat} {e : TypeId} {S : Nat → Prop} (h : TypeIs w k e) (hk : Keeps S w w') (hS : ¬ S k) : TypeIs w' k e := by
  obtain ⟨cur, h⟩ := h
  exact ⟨cur, (hk.block k (Array.getElem?_eq_some_iff.1 h).1 hS).trans h⟩

theorem TypeIs.ne {w : World} {k : Nat} {e e' : TypeId} (h : TypeIs w k e) (hne : e ≠ e') : ¬ TypeIs w k e' := by
  rintro ⟨cur', h'⟩
  obtain ⟨cur, h⟩ := h
  rw [h] at h'
  simp only [Option.some.injEq, Obj.cells.injEq] at h'
  exact hne h'.2.1

theorem Row.typeIs {w : World} {e : TypeId} {size n : Nat} {v : Value} {xs : List Value} (h : Row w e size v n xs) {g : Nat} (hg : v.ownBlock = some g) : TypeIs w g e := h.cellsAt hg

theorem RRep.mem_va (R : RRep) {g : Nat} (h : R.va.ownBlock = some g) : g ∈ R.fp := by simp [RRep.fp, h]
theorem RRep.mem_vw (R : RRep) {g : Nat} (h : R.vw.ownBlock = some g) : g ∈ R.fp := by simp [RRep.fp, h]
theorem RRep.mem_vp (R : RRep) {g : Nat} (h : R.vp.ownBlock = some g) : g ∈ R.fp := by simp [RRep.fp, h]
theorem RRep.mem_vc (R : RRep) {g : Nat} (h : R.vc.ownBlock = some g) : g ∈ R.fp := by simp [RRep.fp, h]
theorem RRep.mem_wr (R : RRep) {x : RWk} (hx : x ∈ R.works) {g : Nat} (h : x.sl.ownBlock = some g) : g ∈ R.fp := by
  simp only [RRep.fp, List.mem_cons, List.mem_append, List.mem_flatMap]
  exact .inr (.inl (.inr ⟨x, hx, by simp [h]⟩))
theorem RRep.mem_pc (R : RRep) {x : RCp} (hx : x ∈ R.copies) {g : Nat} (h : g ∈ x.blks) : g ∈ R.fp := by
  simp only [RRep.fp, List.mem_cons, List.mem_append, List.mem_flatMap]
  exact .inr (.inr ⟨x, hx, h⟩)

theorem RefAt.kept {w w' : World} {R : RRep} {S : Nat → Prop} (h : RefAt w R) (hk : Keeps S w w') (hS : ∀ k ∈ R.fp, ¬ S k) : RefAt w' R := by
  refine ⟨(hk.block _ (Array.getElem?_eq_some_iff.1 h.top).1 (hS _ (by simp [RRep.fp]))).trans h.top, h.all.kept hk (fun g hg => hS g (R.mem_va hg)), h.works.kept hk (fun g hg => hS g (R.mem_vw hg)), fun x hx => Row.kept (h.writes x hx) hk (fun g hg => hS g (R.mem_wr hx hg)),
    h.pins.kept hk (fun g hg => hS g (R.mem_vp hg)), h.copies.kept hk (fun g hg => hS g (R.mem_vc hg)), fun x hx => ?_⟩
  obtain ⟨h1, h2⟩ := h.pieces x hx
  exact ⟨h1.kept (fun k hk' => hk.block k (h2 k hk').lt (hS k (R.mem_pc hx hk'))), fun k hk' => (h2 k hk').kept hk (hS k (R.mem_pc hx hk'))⟩

theorem RefAt.lt {w : World} {R : RRep} (h : RefAt w R) : ∀ k ∈ R.fp, k < w.heap.size := by
  intro k hk
  simp only [RRep.fp, List.mem_cons, List.mem_append, List.mem_flatMap, Option.mem_toList] at hk
  rcases hk with rfl | ((((h1 | h1) | h1) | h1) | ⟨x, hx, h1⟩) | ⟨x, hx, h1⟩
  · exact (Array.getElem?_eq_some_iff.1 h.top).1
  · exact h.all.lt h1
  · exact h.works.lt h1
  · exact h.pins.lt h1
  · exact h.copies.lt h1
  · exact Row.lt (h.writes x hx) h1
  · exact ((h.pieces x hx).2 k h1).lt

theorem RefAt.cell {w : World} {R : RRep} (h : RefAt w R) (j : Nat) : w.cell? ⟨R.b, j, none⟩ = R.top[j]? := by simp [World.cell?, h.top]
theorem RefAt.frozen {w : World} {R : RRep} (h : RefAt w R) (j : Nat) : w.frozen? ⟨R.b, j, none⟩ = false := by simp [World.frozen?, h.top]
theorem RefAt.blt {w : World} {R : RRep} (h : RefAt w R) : R.b < w.heap.size := (Array.getElem?_eq_some_iff.1 h.top).1

theorem ver_at {w W : World} {g cap k : Nat} {l : List RVer} {x : RVer} (h : Row w 152 5 (.slice (some ⟨g, 0, none⟩) l.length cap) l.length (l.flatMap RVer.cells)) (hW : Keeps (fun _ => False) w W) (hx : l[k]? = some x) :
    W.cell? ⟨g, k * 5, none⟩ = some (.int .i64 x.state) ∧ W.cell? ⟨g, k * 5 + 1, none⟩ = some (.string x.r.key) ∧ W.cell? ⟨g, k * 5 + 2, none⟩ = some (.string x.r.value) ∧ W.cell? ⟨g, k * 5 + 3, none⟩ = some (.bool x.r.gone) ∧ W.cell? ⟨g, k * 5 + 4, none⟩ = some (.bool x.thrown) := by
  obtain ⟨hk, rfl⟩ := List.getElem?_eq_some_iff.1 hx
  have h' := h.kept hW (fun _ _ h => h)
  exact ⟨Row.elem RVer.len h' k hk 0 (by omega), Row.elem RVer.len h' k hk 1 (by omega), Row.elem RVer.len h' k hk 2 (by omega), Row.elem RVer.len h' k hk 3 (by omega), Row.elem RVer.len h' k hk 4 (by omega)⟩

theorem wk_at {w W : World} {g cap k : Nat} {l : List RWk} {x : RWk} (h : Row w 219 3 (.slice (some ⟨g, 0, none⟩) l.length cap) l.length (l.flatMap RWk.cells)) (hW : Keeps (fun _ => False) w W) (hx : l[k]? = some x) :
    W.cell? ⟨g, k * 3, none⟩ = some (.int .i64 x.id) ∧ W.cell? ⟨g, k * 3 + 1, none⟩ = some (.int .i64 x.began) ∧ W.cell? ⟨g, k * 3 + 2, none⟩ = some x.sl := by
  obtain ⟨hk, rfl⟩ := List.getElem?_eq_some_iff.1 hx
  have h' := h.kept hW (fun _ _ h => h)
  exact ⟨Row.elem RWk.len h' k hk 0 (by omega), Row.elem RWk.len h' k hk 1 (by omega), Row.elem RWk.len h' k hk 2 (by omega)⟩

/-! ### find -/

/-- a work's place -/
def findL (l : List RWk) (id : Int) : Option Nat := l.findIdx? (fun x => decide (x.id = id))

def idxZ : Option Nat → Int
  | some k => k
  | none => -1

theorem findL_some {l : List RWk} {id : Int} {k : Nat} (h : findL l id = some k) : ∃ x, l[k]? = some x ∧ x.id = id := by
  unfold findL at h
  rw [List.findIdx?_eq_some_iff_getElem] at h
  obtain ⟨hk, h1, _⟩ := h
  exact ⟨l[k], List.getElem?_eq_getElem hk, of_decide_eq_true h1⟩

set_option maxRecDepth 100000 in
set_option maxHeartbeats 800000 in
theorem findR_any (R : RRep) (id : Int) (w : World) (h : RefAt w R) (hl : R.works.length < 1000000000000) :
    Calls Tryz.prog 184 #[.pointer (some ⟨R.b, 0, none⟩), .int .i64 id] w fun e w' => e = .returned (.int .i64 (idxZ (findL R.works id))) ∧ w' = w := by
  obtain ⟨oa, ca, hva, hm, sa⟩ := h.works.form
  have c3 : w.cell? ⟨R.b, 3, none⟩ = some (.slice oa R.works.length ca) := (h.cell 3).trans (by rw [← hva]; rfl)
  have HR := hid h.works
  rw [hva] at HR
  have SA := hid sa
  unfold maxLen at hm
  obtain ⟨l, hle⟩ : ∃ l, l = R.works := ⟨_, rfl⟩
  rw [← hle] at c3 HR SA hm hl ⊢
  clear h hva hle sa
  go_enter Tryz.func184, Tryz.ntmps184
  go_wp2_with fail
  go_loop [5] (fun i => ∃ k : Nat, k ≤ l.length ∧ i = .int .i64 k ∧ findL (l.take k) id = none) (fun i => l.length - (intOf i).toNat)
  case atStart => exact ⟨0, Nat.zero_le _, rfl, rfl⟩
  case round =>
    obtain ⟨k, hk, rfl, hf⟩ := hrel
    by_cases hlt : k < l.length
    · obtain ⟨g, rfl⟩ := SA.out (by omega)
      obtain ⟨x, hx⟩ : ∃ x, l[k]? = some x := ⟨l[k], List.getElem?_eq_getElem hlt⟩
      obtain ⟨d0, d1, d2⟩ := wk_at HR.out (Keeps.refl _ _) hx
      have htk : l.take (k + 1) = l.take k ++ [x] := by
        obtain ⟨hk', rfl⟩ := List.getElem?_eq_some_iff.1 hx
        exact List.take_succ_eq_append_getElem hk'
      have hft : findL (l.take (k + 1)) id = if x.id = id then some k else none := by
        unfold findL at hf ⊢
        rw [htk, List.findIdx?_append, hf]
        have hmin : min k l.length = k := by omega
        by_cases e : x.id = id <;> simp [e, List.length_take, hmin]
      have HF := hid hf
      have HFT := hid hft
      clear hf hft htk hx
      by_cases e : x.id = id
      · have HRES : Hid (findL l id = some k) := by
          show _ = _
          have h1 := HFT.out
          rw [if_pos e] at h1
          have h2 : findL l id = findL (l.take (k + 1) ++ l.drop (k + 1)) id := by rw [List.take_append_drop]
          rw [h2]
          unfold findL at h1 ⊢
          rw [List.findIdx?_append, h1]
          rfl
        have heq : (x.id == id) = true := beq_iff_eq.2 e
        clear e HF HFT
        go_wp2
        go_ret
        exact ⟨ret_int (by rw [HRES.out]; rfl), rfl⟩
      · have heq : (x.id == id) = false := beq_eq_false_iff_ne.2 e
        have HFT' : Hid (findL (l.take (k + 1)) id = none) := by show _ = _; rw [HFT.out, if_neg e]
        clear e HF HFT
        go_wp2
        exact ⟨⟨k + 1, by omega, by go_num, HFT'.out⟩, by simp only [intOf]; omega⟩
    · have HRES : Hid (findL l id = none) := by show _ = _; rw [List.take_of_length_le (by omega)] at hf; exact hf
      clear hf
      go_wp2
      go_ret
      exact ⟨ret_int (by rw [HRES.out]; rfl), rfl⟩

/-! ### has -/
def hasL (l : List RecB) (key : ByteArray) : Option RecB := l.find? (fun x => decide (x.key = key))

set_option maxRecDepth 100000 in
set_option maxHeartbeats 800000 in
theorem hasR_any (v : Value) (l : List RecB) (key : ByteArray) (w : World) (h : RecsAt w v l) (hl : l.length < 1000000000000) :
    Calls Tryz.prog 185 #[v, .string key] w fun e w' => e = .returned (.tuple #[((hasL l key).getD RecB.zero).val, .bool (hasL l key).isSome]) ∧ Keeps (fun _ => False) w w' := by
  obtain ⟨oa, ca, rfl, hm, sa⟩ := Row.form h
  have HR := hid h
  have SA := hid sa
  have HL := hid hl
  unfold maxLen at hm
  clear h sa
  go_enter Tryz.func185, Tryz.ntmps185
  go_wp2_with fail
  go_loop [6] (fun i => ∃ k : Nat, k ≤ l.length ∧ i = .int .i64 k ∧ hasL (l.take k) key = none) (fun i => l.length - (intOf i).toNat)
  case atStart => exact ⟨0, Nat.zero_le _, rfl, rfl⟩
  case round =>
    obtain ⟨k, hk, rfl, hf⟩ := hrel
    by_cases hlt : k < l.length
    · obtain ⟨g, rfl⟩ := SA.out (by omega)
      obtain ⟨x, hx⟩ : ∃ x, l[k]? = some x := ⟨l[k], List.getElem?_eq_getElem hlt⟩
      obtain ⟨c0, c1, c2⟩ := rec_at HR.out (Keeps.refl _ _) hx
      have htk : l.take (k + 1) = l.take k ++ [x] := by
        obtain ⟨hk', rfl⟩ := List.getElem?_eq_some_iff.1 hx
        exact List.take_succ_eq_append_getElem hk'
      have hft : hasL (l.take (k + 1)) key = if x.key = key then some x else none := by
        unfold hasL at hf ⊢
        rw [htk, List.find?_append, hf]
        by_cases e : x.key = key <;> simp [e]
      have HFT := hid hft
      have hgl : g < w.heap.size := World.block_lt_of_cell? _ _ c0
      clear hf hft htk hx
      obtain ⟨xk, xv, xg⟩ := x
      by_cases e : xk = key
      · subst e
        have HRES : Hid (hasL l xk = some ⟨xk, xv, xg⟩) := by
          show _ = _
          have h1 := HFT.out
          rw [if_pos rfl] at h1
          have h2 : hasL l xk = hasL (l.take (k + 1) ++ l.drop (k + 1)) xk := by rw [List.take_append_drop]
          rw [h2]
          unfold hasL at h1 ⊢
          rw [List.find?_append, h1]
          rfl
        clear HFT
        go_wp2
        exact bodyPost_ret (v := .tuple #[.agg #[.string xk, .string xv, .bool xg], .bool true]) (by simp [results, Tryz.results185, go_sem]) rfl ⟨by rw [HRES.out]; rfl, Keeps.alloc _ _ _⟩
      · have hne : (xk.toList == key.toList) = false := (Lib.bytes_beq_false_iff _ _).2 e
        have HFT' : Hid (hasL (l.take (k + 1)) key = none) := by show _ = _; rw [HFT.out, if_neg e]
        clear e HFT
        go_wp2
        exact ⟨⟨k + 1, by omega, by go_num, HFT'.out⟩, by simp only [intOf]; omega⟩
    · have HRES : Hid (hasL l key = none) := by show _ = _; rw [List.take_of_length_le (by omega)] at hf; exact hf
      clear hf
      go_wp2
      exact bodyPost_ret (v := .tuple #[RecB.zero.val, .bool false]) (by simp [results, Tryz.results185, go_sem, RecB.val, RecB.zero]; rfl) rfl ⟨by rw [HRES.out]; rfl, Keeps.alloc _ _ _⟩

end Go.Proofs.YtfcocbcihhdbkaaGreatDoor

/- Scan of a store, from outside. -/
namespace Go.Proofs.YtfcocbcihhdbkaaGreatDoor
open Go.RowKit Go.Shelf

/-- Two rising lists with the same members are one. -/
theorem rises_ext : ∀ {xs ys : List ByteArray}, Rises xs → Rises ys → (∀ k, k ∈ xs ↔ k ∈ ys) → xs = ys
  | [], [], _, _, _ => rfl
  | [], y :: ys, _, _, h => by have := (h y).2 (by simp); cases this
  | x :: xs, [], _, _, h => by have := (h x).1 (by simp); cases this
  | x :: xs, y :: ys, hx, hy, h => by
    obtain ⟨hx1, hx2⟩ := rises_cons hx
    obtain ⟨hy1, hy2⟩ := rises_cons hy
    have e : x = y := by
      rcases List.mem_cons.1 ((h x).1 (by simp)) with e | h1
      · exact e
      · rcases List.mem_cons.1 ((h y).2 (by simp)) with e | h2
        · exact e.symm
        · have := ltK_trans (hy1 x h1) (hx1 y h2)
          rw [ltK_irrefl] at this
          cases this
    subst e
    have hnx : ∀ l : List ByteArray, (∀ z ∈ l, ltK x z = true) → x ∉ l := fun l hl hm => by
      have := hl x hm
      rw [ltK_irrefl] at this
      cases this
    congr 1
    refine rises_ext hx2 hy2 (fun k => ⟨fun hk => ?_, fun hk => ?_⟩)
    · rcases List.mem_cons.1 ((h k).1 (List.mem_cons_of_mem _ hk)) with e | h1
      · exact absurd (e ▸ hk) (hnx xs hx1)
      · exact h1
    · rcases List.mem_cons.1 ((h k).2 (List.mem_cons_of_mem _ hk)) with e | h1
      · exact absurd (e ▸ hk) (hnx ys hy1)
      · exact h1

theorem filterMap_some {β : Type} (f : ByteArray → Option β) : ∀ xs : List ByteArray, (xs.filter (fun k => (f k).isSome)).filterMap f = xs.filterMap f
  | [] => rfl
  | x :: xs => by
    cases h : f x with
    | none => simp [h, filterMap_some f xs]
    | some y => simp [h, filterMap_some f xs]

theorem filterMap_rises {β : Type} {f : ByteArray → Option β} {xs ys : List ByteArray} (hx : Rises xs) (hy : Rises ys) (h1 : ∀ k, (f k).isSome = true → k ∈ xs) (h2 : ∀ k, (f k).isSome = true → k ∈ ys) : xs.filterMap f = ys.filterMap f := by
  rw [← filterMap_some f xs, ← filterMap_some f ys]
  congr 1
  refine rises_ext (hx.sublist List.filter_sublist) (hy.sublist List.filter_sublist) (fun k => ?_)
  simp only [List.mem_filter]
  exact ⟨fun h => ⟨h2 k h.2, h.2⟩, fun h => ⟨h1 k h.2, h.2⟩⟩

/-- the twelve keys, in rising order -/
def K12s : List ByteArray := [keyZ 0, keyZ 3, keyZ 1, keyZ 4, keyZ 7, keyZ 10, keyZ 2, keyZ 5, keyZ 8, keyZ 11, keyZ 6, keyZ 9]

theorem K12s_rises : Rises K12s := by
  unfold Rises
  decide +kernel

theorem K12s_mem {k : ByteArray} (h : k ∈ K12) : k ∈ K12s := by
  obtain ⟨j, hj, rfl⟩ := key_of_mem h
  have hall : ∀ i : Fin 12, memB K12s (keyZ (i.val : Int)) = true := by decide +kernel
  exact (memB_iff _ _).1 (hall ⟨j, hj⟩)

/-- what a work sees -/
def Abs.scan (A : Abs) (bg : Int) (ws : List (ByteArray × Ver)) : List (ByteArray × ByteArray) := K12s.filterMap (pairOf ws A.vers bg)

/-- Scan -/
theorem scan_s {O : Nat → Prop} {w : World} {b : Nat} {A : Abs} {n bg : Int} {ws : List (ByteArray × Ver)} (h : SAt K12 O w b A) (hn : look A.works n = some (bg, ws)) :
    Calls Tryz.prog 55 #[.pointer (some ⟨b, 0, none⟩), .int .i64 n, .string ⟨#[]⟩, .int .i64 (-1)] w fun e w' => ∃ v, e = .returned (.tuple #[v, .int .i64 0]) ∧
      Row w' 90 2 v (A.scan bg ws).length ((A.scan bg ws).flatMap pairCells) ∧ (∀ g, v.ownBlock = some g → w.heap.size ≤ g) ∧ SAt K12 O w' b A ∧ Keeps (fun _ => False) w w' := by
  obtain ⟨R, hi, rfl, rfl, hf⟩ := h
  obtain ⟨x, hx, rfl, rfl⟩ := abs_look hn
  have hkl := hi.keysLen
  have h30 := K12_len
  refine (scan_any R n x w hi.st hi.good hi.tied hx (by omega)).mono ?_
  rintro e w' ⟨v, xs, kw, rfl, hp, hM, hrow, hown, hk⟩
  have hmem : ∀ k, k ∈ xs ↔ (k ∈ R.keys ∨ k ∈ x.writes.map (·.1)) := fun k => by
    have := hM.all k
    simp only [List.not_mem_nil, or_false] at this
    rw [this, hp.mem_iff]
  have hsome : ∀ k, (pairOf x.writes (versOf R.hist) x.began k).isSome = true → k ∈ xs := fun k hk => by
    rw [hmem]
    by_cases hw : k ∈ x.writes.map (·.1)
    · exact .inr hw
    · left
      refine keys_of_vers hi.tied (fun e => ?_)
      have hl : look x.writes k = none := look_none.2 (fun q hq e => hw (List.mem_map.2 ⟨q, hq, e⟩))
      unfold pairOf seeVer at hk
      rw [hl, e] at hk
      simp [atVer, upN, standsB] at hk
  have hin : ∀ k ∈ xs, k ∈ K12 := fun k hk => by
    rcases (hmem k).1 hk with h | h
    · exact hi.kin k h
    · obtain ⟨q, hq, rfl⟩ := List.mem_map.1 h
      exact hi.win _ (look_mem hx) q hq
  have e : xs.filterMap (pairOf x.writes (versOf R.hist) x.began) = R.abs.scan x.began x.writes := filterMap_rises hM.come K12s_rises hsome (fun k hk => K12s_mem (hin k (hsome k hk)))
  rw [e] at hrow
  exact ⟨v, rfl, hrow, hown, ⟨R, hi.kept hk (fun _ _ h => h), rfl, rfl, hf⟩, hk⟩

end Go.Proofs.YtfcocbcihhdbkaaGreatDoor

/- needless: how many of a key's first versions no state from a least one on needs. -/
namespace Go.Proofs.YtfcocbcihhdbkaaGreatDoor
open Go.RowKit Go.Shelf

/-- how many of a key's first versions are not needed -/
def needN (vs : List Ver) (t : Int) : Nat :=
  match atVer vs t with
  | some v => if v.gone = true then upN vs t else upN vs t - 1
  | none => 0

set_option maxRecDepth 100000 in
set_option maxHeartbeats 400000 in
theorem needless_any (sl : Value) (vs : List Ver) (t : Int) (w : World) (h : Row w 179 3 sl vs.length (vs.flatMap Ver.cells)) (hs : Rising vs) (hl : vs.length ≤ 1000000000000) :
    Calls Tryz.prog 118 #[sl, .int .i64 t] w fun e w' => e = .returned (.int .i64 (needN vs t : Nat)) ∧ Keeps (fun _ => False) w w' := by
  have hule := upN_le vs t
  rcases h.shape with ⟨rfl, hn⟩ | ⟨g, cap, rfl, hc1, hc2⟩
  · have e : vs = [] := List.eq_nil_of_length_eq_zero hn
    subst e
    have HU := hid (upTo_nil t w)
    have e : needN [] t = 0 := by simp [needN, atVer, upN]
    rw [e]
    clear h hs hl hule hn e
    go_enter Tryz.func118, Tryz.ntmps118
    go_wp2_with (go_at_call 180; go_must (refine (HU.out).mono ?_; rintro e w1 ⟨rfl, k1⟩))
    go_ret
    exact ⟨rfl, k1⟩
  · have HU := hid (upTo_some g cap vs t w h hs hl)
    by_cases h0 : upN vs t = 0
    · have e : needN vs t = 0 := by simp [needN, atVer, h0]
      rw [e]
      rw [h0] at HU
      clear h hs hule h0 e
      go_enter Tryz.func118, Tryz.ntmps118
      go_wp2_with (go_at_call 180; go_must (refine (HU.out).mono ?_; rintro e w1 ⟨rfl, k1⟩))
      go_ret
      exact ⟨rfl, k1⟩
    · obtain ⟨u, hu⟩ : ∃ u, upN vs t = u + 1 := ⟨upN vs t - 1, by omega⟩
      have hul : u < vs.length := by omega
      have ea : atVer vs t = some vs[u] := by
        unfold atVer
        rw [if_neg h0, hu]
        simp [hul]
      have hv := h.ver u hul
      have en : needN vs t = if vs[u].gone = true then u + 1 else u := by
        unfold needN
        rw [ea]
        simp only [hu, Nat.add_sub_cancel]
      rw [en]
      rw [hu] at HU
      have e1 : ((u + 1 : Nat) : Int) = (u : Int) + 1 := by omega
      rw [e1] at HU
      cases hg : vs[u].gone with
      | true =>
        rw [hg] at hv
        obtain ⟨c0, c1, c2⟩ := hv
        simp only [if_true, e1]
        clear hs hule h0 ea en hg hu h c0 c1 e1
        go_enter Tryz.func118, Tryz.ntmps118
        go_wp2_with (go_at_call 180; go_must (refine (HU.out).mono ?_; rintro e w1 ⟨rfl, k1⟩; have d2 := k1.cell c2 (fun h => h)))
        go_ret
        exact ⟨rfl, k1⟩
      | false =>
        rw [hg] at hv
        obtain ⟨c0, c1, c2⟩ := hv
        simp only [Bool.false_eq_true, if_false]
        clear hs hule h0 ea en hg hu h c0 c1 e1
        go_enter Tryz.func118, Tryz.ntmps118
        go_wp2_with (go_at_call 180; go_must (refine (HU.out).mono ?_; rintro e w1 ⟨rfl, k1⟩; have d2 := k1.cell c2 (fun h => h)))
        go_ret
        exact ⟨ret_int (by omega), k1⟩

end Go.Proofs.YtfcocbcihhdbkaaGreatDoor

/- throw: a key's first versions are cut off. -/
namespace Go.Proofs.YtfcocbcihhdbkaaGreatDoor
open Go.RowKit Go.Shelf

/-- What throw leaves: the key's versions without the first n. -/
def ThrowPost (R : Rep) (key : ByteArray) (n : Nat) (w w' : World) : Prop :=
  ∃ hist', StoreAt w' { R with hist := hist' } ∧ (∀ k, versOf hist' k = if k = key then (versOf R.hist key).drop n else versOf R.hist k) ∧ (∀ k, (look hist' k).isSome = true → (look R.hist k).isSome = true) ∧
    ((∀ p ∈ R.hist, p.2.vers ≠ []) → ∀ p ∈ hist', p.2.vers ≠ []) ∧ Keeps (· ∈ R.fp) w w' ∧ ∀ k ∈ Rep.fp { R with hist := hist' }, k ∈ R.fp ∨ w.heap.size ≤ k

theorem versOf_del {hist : List (ByteArray × HsR)} (hn : (hist.map (·.1)).Nodup) (key k : ByteArray) : versOf (del hist key) k = if k = key then [] else versOf hist k := by
  unfold versOf
  rw [look_del _ hn]
  by_cases e : k = key
  · subst e; simp
  · have e' : ¬ key = k := fun h => e h.symm
    simp [e, e']

theorem throw_setup {R : Rep} {key : ByteArray} {x : HsR} {w : World} (h : StoreAt w R) (hx : look R.hist key = some x) : ∃ b, R.vm = some b ∧ MapAt Value.string w b (R.hist.map fun p => (p.1, p.2.sl)) ∧ w.cell? ⟨R.sb, 8, none⟩ = some (.map (some b)) ∧ R.sb ≠ b ∧
    (∀ g, x.sl.ownBlock = some g → g ≠ R.sb ∧ g ≠ b ∧ g < w.heap.size) ∧ (∀ g, R.kv.ownBlock = some g → g ≠ b ∧ x.sl.ownBlock ≠ some g) := by
  obtain ⟨b, hvm⟩ : ∃ b, R.vm = some b := by
    cases hv : R.vm with
    | some b => exact ⟨b, rfl⟩
    | none =>
      have := h.past.histMap
      rw [hv] at this
      have e : R.hist = [] := List.map_eq_nil_iff.1 this
      rw [e] at hx
      cases hx
  have hR := h.past.histEach _ (look_mem hx)
  have hsl : slOf R.hist key = x.sl := by unfold slOf; rw [hx]; rfl
  have hn := ((fp_perm R key).nodup_iff).1 h.nodup
  rw [List.nodup_append, List.nodup_append] at hn
  have hd1 := hn.2.2
  have hd2 := hn.2.1.2.2
  rw [hsl] at hd1 hd2
  refine ⟨b, hvm, by have := h.past.histMap; rw [hvm] at this; exact this, (h.cell 8).trans (by rw [← hvm]; rfl), fun e => ?_, fun g hg => ⟨fun e => hd2 g (by simp [hg]) g (by simp [Rep.restOf, e]) rfl, fun e => hd2 g (by simp [hg]) g (by simp [Rep.restOf, hvm, e]) rfl, hR.lt hg⟩,
    fun g hg => ⟨fun e => hd1 g (by simp [hg]) g (List.mem_append_right _ (by simp [Rep.restOf, hvm, e])) rfl, fun e => hd1 g (by simp [hg]) g (List.mem_append_left _ (by simp [e])) rfl⟩⟩
  have hn2 := h.nodup
  simp only [Rep.fp, Rep.fpPast, List.nodup_cons, List.mem_append, not_or] at hn2
  exact hn2.1.2.1.2 (by simp [hvm, e])

set_option maxRecDepth 100000 in
set_option maxHeartbeats 1000000 in
/-- all of them -/
theorem throw_all (R : Rep) (key : ByteArray) (x : HsR) (w : World) (h : StoreAt w R) (hx : look R.hist key = some x) :
    Calls Tryz.prog 120 #[.pointer (some ⟨R.sb, 7, none⟩), .string key, .int .i64 (x.vers.length : Nat)] w fun e w' => e = .returned (.tuple #[]) ∧ ThrowPost R key x.vers.length w w' := by
  obtain ⟨b, hvm, hM, c6, hsb, hbs, hkv⟩ := throw_setup h hx
  have hR := h.past.histEach _ (look_mem hx)
  obtain ⟨av, cv, hsv, -⟩ := hR.form
  simp only at hsv
  have hlk : look (R.hist.map fun p => (p.1, p.2.sl)) key = some (.slice av x.vers.length cv) := by rw [look_map, hx]; simp [hsv]
  have HST := hid h
  have HX := hid hx
  have HVM := hid hvm
  have HM := hid hM
  have HLK := hid hlk
  have hlt := h.lt
  have hbl := hM.lt
  clear hM hlk hx h hvm hsv hR
  generalize hn : x.vers.length = n at *
  have HN := hid hn
  clear hn
  go_enter Tryz.func120, Tryz.ntmps120
  go_wp2_with (first
    | (at_lookup; go_must (refine wpList_lookup_at _ rfl _ _ 108 rfl 9 185 strKeyOk Tryz.underlying108 Tryz.underlying9 _ (Tryz.zeroVersions _) b rfl key rfl _ HM.out ?_; rw [HLK.out]; simp only [Option.getD_some]))
    | (at_delete; go_must (refine wpList_delete_at _ rfl _ _ 108 9 rfl 185 strKeyOk Tryz.underlying108 Tryz.underlying9 b rfl key rfl _ HM.out ?_; intro w1 hm1 hk1 hz1)))
  refine bodyPost_ret (results_none rfl _ _ _) rfl ⟨rfl, ?_⟩
  obtain ⟨f1, f2⟩ := HST.out.forgot key (kv' := R.kv) (keys' := R.keys) (b := b) hk1 (fun k _ e => .inr (.inr (by rw [HVM.out, e]))) ((hk1.block R.sb hlt hsb).trans HST.out.top)
    (HST.out.past.keysRow.kept hk1 (fun g hg e => (hkv g hg).1 e)) HVM.out hm1 rfl
  refine ⟨del R.hist key, f1, fun k => ?_, fun k hk => ?_, fun hf p hp => hf p ((del_sublist _ _).subset hp), hk1.mono (fun k _ e => ?_), fun k hk => .inl (f2.subset hk)⟩
  · rw [versOf_del (hist_nodup HST.out.past)]
    by_cases e : k = key
    · subst e
      rw [if_pos rfl, if_pos rfl]
      have hv : versOf R.hist k = x.vers := by unfold versOf; rw [HX.out]; rfl
      rw [hv, List.drop_of_length_le (by rw [HN.out]; exact Nat.le_refl _)]
    · rw [if_neg e, if_neg e]
  · rw [look_del _ (hist_nodup HST.out.past)] at hk
    by_cases e : key = k
    · rw [if_pos e] at hk; cases hk
    · rwa [if_neg e] at hk
  · have e' : k = b := e
    simp only [Rep.fp, Rep.fpPast, List.mem_cons, List.mem_append]
    exact .inr (.inr (.inl (.inr (by rw [HVM.out, e']; simp))))

theorem drop_cells (vs : List Ver) (n : Nat) : (vs.drop n).flatMap Ver.cells = (vs.flatMap Ver.cells).drop (n * 3) := by
  induction vs generalizing n with
  | nil => simp
  | cons v vs ih =>
    cases n with
    | zero => simp
    | succ n =>
      rw [List.drop_succ_cons, ih]
      have e : (n + 1) * 3 = 3 + n * 3 := by omega
      simp only [List.flatMap_cons]
      rw [e, List.drop_append]
      simp [Ver.cells]

theorem cells_one (vs : List Ver) : ∀ u ∈ vs.flatMap Ver.cells, u.oneCell' = true := by
  intro u hu
  obtain ⟨v, _, hu⟩ := List.mem_flatMap.1 hu
  simp only [Ver.cells, List.mem_cons, List.not_mem_nil, or_false] at hu
  rcases hu with rfl | rfl | rfl <;> rfl

theorem throw_grown {w w1 : World} {sb b g : Nat} {l : List (ByteArray × Value)} {u : Value} (hgb : g ≠ sb ∧ g ≠ b ∧ g < w.heap.size) (hM : MapAt Value.string w b l) (c6 : w.cell? ⟨sb, 8, none⟩ = some u) (hg : w.drew.grownBy w1 (Value.slice (some ⟨g, 0, none⟩) 0 0).ownBlock) :
    Keeps (· = g) w w1 ∧ MapAt Value.string w1 b l ∧ w1.cell? ⟨sb, 8, none⟩ = some u := by
  have hk : Keeps (· = g) w w1 := (Keeps.drew _ w).tr (Keeps.grown hg) (fun k e => by simpa [Value.ownBlock] using e)
  exact ⟨hk, hM.kept hk (fun e => hgb.2.1 e.symm), hk.cell (p := ⟨sb, 8, none⟩) c6 (fun e => hgb.1 e.symm)⟩

set_option maxRecDepth 100000 in
set_option maxHeartbeats 1000000 in
/-- some of them -/
theorem throw_some (R : Rep) (key : ByteArray) (x : HsR) (n m : Nat) (w : World) (h : StoreAt w R) (hx : look R.hist key = some x) (hn : x.vers.length = n + (m + 1)) (hl : n + (m + 1) < 1000000000000) :
    Calls Tryz.prog 120 #[.pointer (some ⟨R.sb, 7, none⟩), .string key, .int .i64 (n : Nat)] w fun e w' => e = .returned (.tuple #[]) ∧ ThrowPost R key n w w' := by
  obtain ⟨b, hvm, hM, c6, hsb, hbs, hkv⟩ := throw_setup h hx
  have hR := h.past.histEach _ (look_mem hx)
  simp only at hR
  obtain ⟨g, cap, hsv⟩ : ∃ g cap, x.sl = .slice (some ⟨g, 0, none⟩) (n + (m + 1)) cap := by
    rw [hn] at hR
    exact hR.succ (n := n + m)
  have hlk : look (R.hist.map fun p => (p.1, p.2.sl)) key = some (.slice (some ⟨g, 0, none⟩) (n + (m + 1)) cap) := by rw [look_map, hx]; simp [hsv]
  have hgb := hbs g (by rw [hsv]; rfl)
  rw [hsv, hn] at hR
  obtain ⟨hcap, hcm⟩ : n + (m + 1) ≤ cap ∧ cap ≤ maxLen := by
    rcases hR.shape with ⟨e, _⟩ | ⟨g', cap', e, h1, h2⟩
    · cases e
    · simp at e
      exact ⟨by rw [e.2]; exact h1, by rw [e.2]; exact h2⟩
  have hdest : Row w 179 3 (.slice (some ⟨g, 0, none⟩) 0 0) 0 [] := by
    obtain ⟨cur, hcur⟩ := hR.cellsAt (g := g) rfl
    exact ⟨rfl, .inr ⟨g, 0, cur, rfl, hcur, Nat.le_refl _, Nat.zero_le _, by simp, by simp⟩⟩
  have hnews : ∀ (W : World), W.heap[g]? = w.heap[g]? → ∀ j u, ((x.vers.drop n).flatMap Ver.cells)[j]? = some u → W.cell? ((⟨g, n * 3, none⟩ : Addr).add j) = some u := fun W hW j u hj => by
    rw [drop_cells, List.getElem?_drop] at hj
    have e : ((⟨g, n * 3, none⟩ : Addr).add j) = ⟨g, n * 3 + j, none⟩ := by unfold Addr.add; by_cases h0 : j = 0 <;> simp [h0]
    have hjl : n * 3 + j < (n + (m + 1)) * 3 := by
      have := (List.getElem?_eq_some_iff.1 hj).1
      rw [cells_length, hn] at this
      exact this
    have hc := hR.cellAt (n * 3 + j) hjl
    rw [hj] at hc
    rw [e, ← hc]
    simp only [World.cell?, hW]
  unfold maxLen at hcm
  have hcn : ¬ cap = n := by omega
  have hle : (n : Int) ≤ (n : Int) + ((m : Int) + 1) := by omega
  have hen : ((n : Int) == (n : Int) + ((m : Int) + 1)) = false := by simp; omega
  have HST := hid h
  have HX := hid hx
  have HVM := hid hvm
  have HM := hid hM
  have HLK := hid hlk
  have HN := hid hn
  have HD := hid hdest
  have HNW := hid hnews
  have HSV := hid hsv
  have hlt := h.lt
  have hbl := hM.lt
  obtain ⟨i0, hi, hz0, hz1, hz2⟩ := info_parts Tryz.infoVersion
  clear hM hlk hx h hvm hsv hR hn hdest hnews
  go_enter Tryz.func120, Tryz.ntmps120
  go_wp2_with (at_lookup; go_must (refine wpList_lookup_at _ rfl _ _ 108 rfl 9 185 strKeyOk Tryz.underlying108 Tryz.underlying9 _ (Tryz.zeroVersions _) b rfl key rfl _ HM.out ?_; rw [HLK.out]; simp only [Option.getD_some]))
  go_region_held3 (fun W => W.cell? ⟨R.sb, 8, none⟩ = some (.map (some b))) (go_keep)
    ((refine step_append_row _ (by rfl) _ _ 185 (by rfl) 179 i0 _ 3 32 Tryz.underlying185 hi hz0 hz1 hz2 (by rfl) (.slice (some ⟨g, 0, none⟩) 0 0) 0 [] (by rfl) (HD.out.kept (Keeps.drew (fun _ => False) w) (fun _ _ h => h)) ⟨g, n * 3, none⟩ (m + 1) (cap - n) ((x.vers.drop n).flatMap Ver.cells) (by rfl) (by rw [cells_length, List.length_drop, HN.out]; omega) (HNW.out _ rfl) (cells_one _) (by unfold maxLen; omega) (by omega) ?_; intro v' w1 hown' hgrow _ hat; rw [Nat.zero_add, List.nil_append] at hown'; obtain ⟨g', cap', rfl⟩ := hown'.succ; obtain ⟨hkw, hmw, r0⟩ := throw_grown hgb HM.out c6 hgrow; obtain ⟨ob, hrun, hM1⟩ := hmw.update (P := Tryz.prog) (t := 108) strKeyOk Tryz.underlying108 Tryz.underlying9 key (.slice (some ⟨g', 0, none⟩) (m + 1) cap'); have t0 := (Keeps.setBlock w1 b ob).cell (p := ⟨R.sb, 8, none⟩) r0 hsb))
  go_end0
  have hsl : slOf R.hist key = .slice (some ⟨g, 0, none⟩) (n + (m + 1)) cap := by unfold slOf; rw [HX.out]; exact HSV.out
  have hvs : versOf R.hist key = x.vers := by unfold versOf; rw [HX.out]; rfl
  have hkk : Keeps (fun k => k = g ∨ k = b) w (Go.ChangeMaps.setBlock w1 b ob) := (hkw.mono (fun _ _ h => .inl h)).tr (Keeps.setBlock w1 b ob) (fun _ h => .inr h)
  have hg' : g' = g ∨ w.heap.size ≤ g' := by
    rcases hat with h | h
    · left; simpa [Value.ownBlock] using h
    · right
      have h' : g' = w.drew.heap.size := by simpa [Value.ownBlock] using h
      have h'' : g' = w.heap.size := h'
      omega
  have hgb' : g' ≠ b := by
    rcases hg' with h | h
    · rw [h]; exact hgb.2.1
    · omega
  have c2 : ∀ k, (Value.slice (some ⟨g', 0, none⟩) (m + 1) cap').ownBlock = some k → (slOf R.hist key).ownBlock = some k ∨ w.heap.size ≤ k := fun k hk => by
    have hk' : g' = k := own_eq hk
    rw [hsl]
    rcases hg' with h | h
    · left; rw [← hk', h]; rfl
    · right; omega
  have hlen : (x.vers.drop n).length = m + 1 := by rw [List.length_drop, HN.out]; omega
  have hS := HST.out.added key (kv' := R.kv) (sl' := .slice (some ⟨g', 0, none⟩) (m + 1) cap') (keys' := R.keys) (b := b) (vs' := x.vers.drop n) hkk (fun k _ hs => by
      rcases hs with hs | hs
      · exact .inr (.inr (.inr (by rw [hsl, hs]; rfl)))
      · exact .inr (.inr (.inl (by rw [HVM.out, hs]))))
    (by
      have e : topCells { R with kv := R.kv, vm := some b } = topCells R := by simp [topCells, HVM.out]
      rw [e]
      exact (hkk.block R.sb hlt (by rintro (h | h); exact hgb.1 h.symm; exact hsb h)).trans HST.out.top)
    (HST.out.past.keysRow.kept hkk (fun k hk => by
      rintro (h | h)
      · exact (hkv k hk).2 (by rw [HSV.out, h]; rfl)
      · exact (hkv k hk).1 h)) hM1
    (by
      rw [hlen]
      exact hown'.kept (Keeps.setBlock w1 b ob) (fun k hk e => hgb' (by rw [own_eq hk]; exact e)))
    (fun k hk => .inl hk) c2 (.inl HVM.out) (by
      cases hkb : R.kv.ownBlock with
      | none => simp [Value.ownBlock, hgb']
      | some k =>
        have h1 := hkv k hkb
        have h3 := HST.out.past.keysRow.lt hkb
        have h2 : k ≠ g' := by
          rcases hg' with h | h
          · exact fun e => h1.2 (by rw [HSV.out, e, h]; rfl)
          · omega
        simp [Value.ownBlock, hgb', h1.1, h2])
  have eR : ({ R with kv := R.kv, keys := R.keys, vm := some b, hist := put R.hist key ⟨.slice (some ⟨g', 0, none⟩) (m + 1) cap', x.vers.drop n⟩ } : Rep) = { R with hist := put R.hist key ⟨.slice (some ⟨g', 0, none⟩) (m + 1) cap', x.vers.drop n⟩ } := by rw [← HVM.out]
  rw [eR] at hS
  refine ⟨rfl, _, hS, fun k => ?_, fun k hk => ?_, fun hf p hp => ?_, hkk.mono (fun k _ h => ?_), fun k hk => ?_⟩
  · rw [versOf_put, hvs]
    by_cases e : key = k
    · rw [if_pos e, if_pos e.symm]
    · rw [if_neg e, if_neg (fun h => e h.symm)]
  · rw [look_put] at hk
    by_cases e : key = k
    · rw [← e, HX.out]; rfl
    · rwa [if_neg e] at hk
  · rcases mem_put (hist_nodup HST.out.past) hp with rfl | ⟨h1, _⟩
    · intro e
      have : (x.vers.drop n).length = 0 := by
        have e' : x.vers.drop n = [] := e
        rw [e']; rfl
      omega
    · exact hf p h1
  · rw [(fp_perm R key).mem_iff, hsl]
    rcases h with h | h
    · exact List.mem_append_right _ (List.mem_append_left _ (by rw [h]; simp [Value.ownBlock]))
    · exact List.mem_append_right _ (List.mem_append_right _ (by simp [Rep.restOf, HVM.out, h]))
  · have e1 : slOf (put R.hist key ⟨.slice (some ⟨g', 0, none⟩) (m + 1) cap', x.vers.drop n⟩) key = .slice (some ⟨g', 0, none⟩) (m + 1) cap' := by unfold slOf; rw [look_put_same]; rfl
    rw [(fp_perm _ key).mem_iff] at hk
    simp only [e1] at hk
    rcases List.mem_append.1 hk with hk | hk
    · exact .inl ((fp_perm R key).mem_iff.2 (List.mem_append_left _ hk))
    · rcases List.mem_append.1 hk with hk | hk
      · have hk' : (Value.slice (some ⟨g', 0, none⟩) (m + 1) cap').ownBlock = some k := by simpa using hk
        rcases c2 k hk' with h | h
        · exact .inl ((fp_perm R key).mem_iff.2 (List.mem_append_right _ (List.mem_append_left _ (by simp [h]))))
        · exact .inr h
      · have e2 : Rep.restOf { R with hist := put R.hist key ⟨.slice (some ⟨g', 0, none⟩) (m + 1) cap', x.vers.drop n⟩ } key = R.restOf key := by simp only [Rep.restOf, Rep.fpWorks, del_put]
        rw [e2] at hk
        exact .inl ((fp_perm R key).mem_iff.2 (List.mem_append_right _ (List.mem_append_right _ hk)))

end Go.Proofs.YtfcocbcihhdbkaaGreatDoor
