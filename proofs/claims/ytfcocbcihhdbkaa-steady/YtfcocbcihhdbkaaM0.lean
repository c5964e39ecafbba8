import Derived.WalkKit
import Derived.WalkSpells
import Derived.Maps.AppendAt
import Derived.Maps.RangeRun
import Derived.Maps.OwnSet
import Derived.Test.YtfcocbcihhdbkaaProg
import Derived.Defers
import Derived.Recover
import Derived.RangeFuncNested
import Derived.RangeFuncBound
import Derived.RangeFuncCalls
import Derived.RangeFuncLeaves
import Derived.Shelf.Abstract
import Derived.Shelf.RegionOpen
import Derived.OwnWalkIn
import Derived.TacticsInMore
import Derived.LoopNIn
import Derived.LoopIn

/- Laws of memory that name no program: what a call leaves as it was; a slice that lies at the head of a block of its own; a map whose entries are told by a list. -/
namespace Go.Proofs.Ytfcocbcihhdbkaa
open Go.RowKit Go.ChangeMaps

theorem hid {p : Prop} (h : p) : Hid p := h

/-- Of what was there nothing has turned but the blocks of S. -/
structure Keeps (S : Nat → Prop) (w w' : World) : Prop where
  os : w'.os = w.os
  tape : w'.tape = w.tape
  output : w'.output = w.output
  size : w.heap.size ≤ w'.heap.size
  block : ∀ k, k < w.heap.size → ¬ S k → w'.heap[k]? = w.heap[k]?

theorem Keeps.refl (S : Nat → Prop) (w : World) : Keeps S w w := ⟨rfl, rfl, rfl, Nat.le_refl _, fun _ _ _ => rfl⟩

theorem Keeps.trans {S T : Nat → Prop} {a b c : World} (h : Keeps S a b) (k : Keeps T b c) (hT : ∀ i, i < a.heap.size → T i → S i) : Keeps S a c :=
  ⟨k.os.trans h.os, k.tape.trans h.tape, k.output.trans h.output, Nat.le_trans h.size k.size,
    fun i hi hS => (k.block i (Nat.lt_of_lt_of_le hi h.size) (fun ht => hS (hT i hi ht))).trans (h.block i hi hS)⟩

theorem Keeps.mono {S T : Nat → Prop} {a b : World} (h : Keeps S a b) (hT : ∀ i, i < a.heap.size → S i → T i) : Keeps T a b :=
  ⟨h.os, h.tape, h.output, h.size, fun i hi ht => h.block i hi (fun hs => ht (hT i hi hs))⟩

theorem Keeps.drew (S : Nat → Prop) (w : World) : Keeps S w w.drew := ⟨rfl, rfl, rfl, Nat.le_refl _, fun _ _ _ => rfl⟩

theorem Keeps.alloc (S : Nat → Prop) (w : World) (o : Obj) : Keeps S w (w.alloc o) :=
  ⟨rfl, rfl, rfl, by simp, fun k hk _ => Below.heap_alloc _ _ _ hk⟩

theorem Keeps.setCell (w : World) (p : Addr) (u : Value) : Keeps (· = p.block) w (w.setCell p u) :=
  ⟨rfl, rfl, rfl, by simp [World.setCell], fun k _ hS => Below.heap_setCell _ _ _ _ hS⟩

theorem Keeps.al {S : Nat → Prop} {a w : World} (h : Keeps S a w) (o : Obj) : Keeps S a (w.alloc o) := h.trans (Keeps.alloc (fun _ => False) w o) (fun _ _ h => h.elim)

theorem Keeps.dr {S : Nat → Prop} {a w : World} (h : Keeps S a w) : Keeps S a w.drew := h.trans (Keeps.drew (fun _ => False) w) (fun _ _ h => h.elim)

theorem Keeps.st {S : Nat → Prop} {a w : World} (h : Keeps S a w) {p : Addr} (hp : a.heap.size ≤ p.block ∨ S p.block) (u : Value) : Keeps S a (w.setCell p u) :=
  h.trans (Keeps.setCell w p u) (fun i hi hT => by
    have hT' : i = p.block := hT
    subst hT'
    rcases hp with h | h
    · omega
    · exact h)

theorem Keeps.tr {S T : Nat → Prop} {a b c : World} (h : Keeps S a b) (k : Keeps T b c) (hT : ∀ i, T i → S i) : Keeps S a c := h.trans k (fun i _ h => hT i h)

theorem Keeps.grown {w w' : World} {row : Option Nat} (h : w.grownBy w' row) : Keeps (fun k => some k = row) w w' :=
  ⟨h.os, h.tape, h.output, h.size, fun k hk hS => h.block k hk hS⟩

theorem Keeps.below {w w' : World} (h : Below w.heap.size w w') : Keeps (fun _ => False) w w' :=
  ⟨h.os, h.tape, h.output, h.size, fun k hk _ => h.block k hk⟩

theorem Keeps.toBelow {S : Nat → Prop} {B : Nat} {w w' : World} (h : Keeps S w w') (hB : B ≤ w.heap.size) (hS : ∀ k, k < B → ¬ S k) : Below B w w' :=
  ⟨h.os, h.tape, h.output, h.size, fun k hk => h.block k (by omega) (hS k hk)⟩

theorem Keeps.setBlock (w : World) (b : Nat) (o : Obj) : Keeps (· = b) w (setBlock w b o) := by
  refine ⟨rfl, rfl, rfl, by simp [Go.ChangeMaps.setBlock], fun k hk hS => ?_⟩
  simp only [Go.ChangeMaps.setBlock]
  rw [Array.getElem?_setIfInBounds]
  rw [if_neg (by intro e; exact hS e.symm)]

theorem Keeps.cell {S : Nat → Prop} {w w' : World} (h : Keeps S w w') {p : Addr} {v : Value} (hc : w.cell? p = some v) (hS : ¬ S p.block) : w'.cell? p = some v :=
  (World.cell?_of_block (h.block p.block (World.block_lt_of_cell? _ _ hc) hS)).trans hc

theorem Keeps.frozen {S : Nat → Prop} {w w' : World} (h : Keeps S w w') {p : Addr} (hp : p.block < w.heap.size) (hS : ¬ S p.block) : w'.frozen? p = w.frozen? p :=
  World.frozen?_of_block (h.block p.block hp hS)

theorem heap_setCell_same {w : World} {b i : Nat} {c : Array Value} {e : TypeId} {fz : Nat × Nat} (h : w.heap[b]? = some (.cells c e fz)) (v : Value) : (w.setCell ⟨b, i, none⟩ v).heap[b]? = some (.cells (c.setIfInBounds i v) e fz) := by
  simp [World.setCell, Array.getElem?_modify, h]

theorem cell_of_heap {w : World} {b : Nat} {c : Array Value} {e : TypeId} {fz : Nat × Nat} (h : w.heap[b]? = some (.cells c e fz)) (i : Nat) : w.cell? ⟨b, i, none⟩ = c[i]? := by simp [World.cell?, h]

theorem frozen_of_heap {w : World} {b : Nat} {c : Array Value} {e : TypeId} (h : w.heap[b]? = some (.cells c e (0, 0))) (i : Nat) : w.frozen? ⟨b, i, none⟩ = false := by simp [World.frozen?, h]

theorem heap_new (w : World) (o : Obj) : (w.alloc o).heap[w.heap.size]? = some o := (MapKept.heap_alloc w _).1

/-- A new block stays as it was laid. -/
theorem box_kept {S : Nat → Prop} {w w1 : World} {o : Obj} (hk : Keeps S (w.alloc o) w1) (hS : ¬ S w.heap.size) : w1.heap[w.heap.size]? = some o :=
  (hk.block _ (by simp) hS).trans (heap_new w o)

/-- A block of three cells that may be written. -/
theorem three_cells {w : World} {b : Nat} {x y z : Value} {e : TypeId} (h : w.heap[b]? = some (.cells #[x, y, z] e (0, 0))) :
    w.cell? ⟨b, 0, none⟩ = some x ∧ w.cell? ⟨b, 1, none⟩ = some y ∧ w.cell? ⟨b, 2, none⟩ = some z ∧ w.frozen? ⟨b, 0, none⟩ = false ∧ w.frozen? ⟨b, 1, none⟩ = false ∧ w.frozen? ⟨b, 2, none⟩ = false :=
  ⟨cell_of_heap h 0, cell_of_heap h 1, cell_of_heap h 2, frozen_of_heap h 0, frozen_of_heap h 1, frozen_of_heap h 2⟩

/-- Three cells stored. -/
theorem heap_set3 {w : World} {b : Nat} {x y z : Value} {e : TypeId} (h : w.heap[b]? = some (.cells #[x, y, z] e (0, 0))) (u0 u1 u2 : Value) :
    (((w.setCell ⟨b, 0, none⟩ u0).setCell ⟨b, 1, none⟩ u1).setCell ⟨b, 2, none⟩ u2).heap[b]? = some (.cells #[u0, u1, u2] e (0, 0)) := by
  have h1 := heap_setCell_same (i := 0) h u0
  have h2 := heap_setCell_same (i := 1) h1 u1
  have h3 := heap_setCell_same (i := 2) h2 u2
  simpa using h3

/-! ### a slice at the head of a block of its own -/

/-- v is a slice of n elements (of size cells each) at the head of a block, or nil; its cells are xs. -/
def Row (w : World) (e : TypeId) (size : Nat) (v : Value) (n : Nat) (xs : List Value) : Prop :=
  xs.length = n * size ∧
  ((v = .slice none 0 0 ∧ n = 0) ∨
   ∃ g cap cur, v = .slice (some ⟨g, 0, none⟩) n cap ∧ w.heap[g]? = some (.cells cur e (0, 0)) ∧ n ≤ cap ∧ cap ≤ maxLen ∧ cap * size ≤ cur.size ∧ cur.toList.take (n * size) = xs)

theorem Row.nil (w : World) (e : TypeId) (size : Nat) : Row w e size (.slice none 0 0) 0 [] := ⟨by simp, .inl ⟨rfl, rfl⟩⟩

theorem Row.lt {w : World} {e : TypeId} {size : Nat} {v : Value} {n : Nat} {xs : List Value} (h : Row w e size v n xs) {g : Nat} (hg : v.ownBlock = some g) : g < w.heap.size := by
  rcases h.2 with ⟨rfl, _⟩ | ⟨g', cap, cur, rfl, hh, _⟩
  · simp [Value.ownBlock] at hg
  · simp [Value.ownBlock] at hg
    subst hg
    exact (Array.getElem?_eq_some_iff.1 hh).1

theorem Row.kept {w w' : World} {e : TypeId} {size : Nat} {v : Value} {n : Nat} {xs : List Value} {S : Nat → Prop} (h : Row w e size v n xs) (hk : Keeps S w w') (hS : ∀ g, v.ownBlock = some g → ¬ S g) : Row w' e size v n xs := by
  refine ⟨h.1, ?_⟩
  rcases h.2 with h2 | ⟨g, cap, cur, rfl, hh, r⟩
  · exact .inl h2
  · exact .inr ⟨g, cap, cur, rfl, by rw [hk.block g (Array.getElem?_eq_some_iff.1 hh).1 (hS g rfl)]; exact hh, r⟩

theorem Row.cellAt {w : World} {e : TypeId} {size : Nat} {g n cap : Nat} {xs : List Value} (h : Row w e size (.slice (some ⟨g, 0, none⟩) n cap) n xs) (j : Nat) (hj : j < n * size) : w.cell? ⟨g, j, none⟩ = xs[j]? := by
  rcases h.2 with ⟨h2, _⟩ | ⟨g', cap', cur, hv, hh, _, _, hc, ht⟩
  · simp at h2
  · simp at hv
    obtain ⟨rfl, rfl⟩ := hv
    rw [← ht]
    simp [World.cell?, hh, hj]

theorem Row.frozenAt {w : World} {e : TypeId} {size : Nat} {g n cap : Nat} {xs : List Value} (h : Row w e size (.slice (some ⟨g, 0, none⟩) n cap) n xs) (j : Nat) : w.frozen? ⟨g, j, none⟩ = false := by
  rcases h.2 with ⟨h2, _⟩ | ⟨g', cap', cur, hv, hh, _⟩
  · simp at h2
  · simp at hv
    obtain ⟨rfl, rfl⟩ := hv
    simp [World.frozen?, hh]

theorem Row.succ {w : World} {e : TypeId} {size : Nat} {v : Value} {n : Nat} {xs : List Value} (h : Row w e size v (n + 1) xs) : ∃ g cap, v = .slice (some ⟨g, 0, none⟩) (n + 1) cap := by
  rcases h.2 with ⟨_, h2⟩ | ⟨g, cap, cur, hv, _⟩
  · cases h2
  · exact ⟨g, cap, hv⟩

section
variable {P : Program} (w : World)

/-- append onto such a slice. -/
theorem run_append_row (t ty e : TypeId) (i : TypeInfo) (z : Value) (size bytes : Nat) (ht : P.underlying t = some (.slice e)) (hi : P.info? e = some i) (hz : i.zero = some z)
    (hsize : i.size = size) (hby : i.bytes = bytes) (hzs : z.cells.size = size)
    (v : Value) (n : Nat) (xs : List Value) (hown : Row w e size v n xs)
    (a : Addr) (m c : Nat) (news : List Value) (hl : news.length = m * size) (hnews : ∀ j u, news[j]? = some u → w.cell? (a.add j) = some u) (h1 : ∀ u ∈ news, u.oneCell' = true)
    (h63 : n + m ≤ maxLen) (hbytes : (n + m) * bytes ≤ 140737488355328) :
    ∃ v' w', (Builtin.append_ #[t, t] ty #[v, .slice (some a) m c]).run P w = .ok v' w' ∧ Row w' e size v' (n + m) (xs ++ news) ∧ w.grownBy w' v.ownBlock ∧
      (v' = .slice none 0 0 ↔ v = .slice none 0 0 ∧ m = 0) ∧ (v'.ownBlock = v.ownBlock ∨ v'.ownBlock = some w.heap.size) := by
  subst hsize
  subst hby
  have hsmall : n + m ≤ 9223372036854775807 := by simp only [maxLen] at h63; omega
  have hlen : (xs ++ news).length = (n + m) * i.size := by rw [List.length_append, hown.1, hl, Nat.add_mul]
  have grown : ∀ (old : Nat), old < n + m → ∀ (row : Option Nat),
      Row (w.drew.alloc (.cells (xs.toArray ++ news.toArray ++ Builtin.zeroCells z.cells (grownCap w (n + m) old e - (n + m))) e)) e i.size
        (.slice (some ⟨w.heap.size, 0, none⟩) (n + m) (grownCap w (n + m) old e)) (n + m) (xs ++ news) ∧
      w.grownBy (w.drew.alloc (.cells (xs.toArray ++ news.toArray ++ Builtin.zeroCells z.cells (grownCap w (n + m) old e - (n + m))) e)) row := by
    intro old ho row
    have hge := grownCap_ge w (n + m) old e
    have hcm : grownCap w (n + m) old e ≤ maxLen := grownCap_le_maxLen w (n + m) old e h63
    refine ⟨⟨hlen, .inr ⟨w.heap.size, _, _, rfl, Go.heap_alloc_new w.drew _, hge, hcm, ?_, ?_⟩⟩, ⟨rfl, rfl, rfl, by simp, fun k hk _ => Go.heap_alloc_old w.drew _ hk⟩⟩
    · simp only [Array.size_append, List.size_toArray, size_zeroCells, hzs, hown.1, hl, ← Nat.add_mul]
      apply Nat.mul_le_mul_right
      omega
    · simp only [Array.toList_append, List.append_assoc]
      rw [← List.append_assoc, ← hlen]
      exact List.take_left
  rcases hown.2 with ⟨rfl, rfl⟩ | ⟨g, cap, cur, rfl, hg, hnc, hcm, hcs, htake⟩
  · have hx : xs = [] := List.eq_nil_of_length_eq_zero (by simpa using hown.1)
    subst hx
    by_cases hm : m = 0
    · subst hm
      have hn : news = [] := List.eq_nil_of_length_eq_zero (by simpa using hl)
      subst hn
      refine ⟨.slice none 0 0, w, ?_, Row.nil w e i.size, ⟨rfl, rfl, rfl, Nat.le_refl _, fun _ _ _ => rfl⟩, by simp, Or.inl rfl⟩
      simp [Builtin.append_, run_underlying ht, sizeOf, typeInfo, hi, Builtin.lenOf, Builtin.firstCells, loadCells, loadCellsFrom]
    · have hr := run_append_nil (P := P) w t ty e i z ht hi hz a m c news hl hnews (by omega) (by omega) (by have hb := hbytes; simp only [Nat.zero_add] at hb; omega)
      have hgr := grown 0 (by omega) (Value.ownBlock (.slice none 0 0))
      simp only [Nat.zero_add, List.nil_append, Array.empty_append] at hgr ⊢
      exact ⟨_, _, hr, hgr.1, hgr.2, by simp [hm], Or.inr rfl⟩
  · by_cases hroom : n + m ≤ cap
    · have hfit : n * i.size + news.length ≤ cur.size := by rw [hl, ← Nat.add_mul]; exact Nat.le_trans (Nat.mul_le_mul_right _ hroom) hcs
      have hr := run_append_room (P := P) w t ty e i ht hi g n cap cur hg a m c news hl hnews h1 hroom hfit
      refine ⟨_, _, hr, ⟨hlen, .inr ⟨g, cap, _, rfl, setRow_heap w g cur _ e _ hg, hroom, hcm, ?_, ?_⟩⟩, ⟨rfl, rfl, rfl, by simp, fun k _ hk => setRow_other w g k _ (fun e => hk (by simp [Value.ownBlock, e]))⟩, by simp, Or.inl rfl⟩
      · simp only [List.size_toArray, List.length_append, List.length_take, List.length_drop, Array.length_toList]
        omega
      · rw [htake, ← hlen]
        exact List.take_left
    · have holds : ∀ j u, xs[j]? = some u → w.cell? ((⟨g, 0, none⟩ : Addr).add j) = some u := by
        intro j u hj
        have hjl : j < n * i.size := by
          have := (List.getElem?_eq_some_iff.1 hj).1
          rw [hown.1] at this
          exact this
        have := hown.cellAt j hjl
        rw [Addr.add_lit, Nat.zero_add, this, hj]
      have hr := run_append_grow (P := P) w t ty e i z ht hi hz ⟨g, 0, none⟩ n cap xs hown.1 holds a m c news hl hnews (by omega) (by omega) (growslice_fits (by omega) hbytes)
      have hgr := grown cap (by omega) (Value.ownBlock (.slice (some ⟨g, 0, none⟩) n cap))
      exact ⟨_, _, hr, hgr.1, hgr.2, by simp, Or.inr rfl⟩

/-- .. at the operation. -/
theorem wpList_append_row {ops : Array Oper} {rest : List Oper} {o : Oper} {a : Act} {Q : Exit → Act → World → Prop} (hgd : o.guard = none) (s x : Operand) (t : TypeId)
    (ho : o.op = .call { callee := .builtin .append, args := #[s, x], argTypes := #[t, t] })
    (e : TypeId) (i : TypeInfo) (z : Value) (size bytes : Nat) (ht : P.underlying t = some (.slice e)) (hi : P.info? e = some i) (hz : i.zero = some z)
    (hsize : i.size = size) (hby : i.bytes = bytes) (hzs : z.cells.size = size)
    (v : Value) (n : Nat) (xs : List Value) (hs : a.eval s = v) (hown : Row w e size v n xs)
    (ad : Addr) (m c : Nat) (news : List Value) (hx : a.eval x = .slice (some ad) m c) (hl : news.length = m * size) (hnews : ∀ j u, news[j]? = some u → w.cell? (ad.add j) = some u) (h1 : ∀ u ∈ news, u.oneCell' = true)
    (h63 : n + m ≤ maxLen) (hbytes : (n + m) * bytes ≤ 140737488355328)
    (h : ∀ v' w', Row w' e size v' (n + m) (xs ++ news) → w.grownBy w' v.ownBlock → (v' = .slice none 0 0 ↔ v = .slice none 0 0 ∧ m = 0) → (v'.ownBlock = v.ownBlock ∨ v'.ownBlock = some w.heap.size) → wpList P ops Q rest (a.put o.dst v') w') :
    wpList P ops Q (o :: rest) a w := by
  refine wpList_plain hgd fun K hK => ?_
  obtain ⟨v', w', hr, h2, h3, h4, h5⟩ := run_append_row (P := P) w t o.type e i z size bytes ht hi hz hsize hby hzs v n xs hown ad m c news hl hnews h1 h63 hbytes
  unfold Oper.wp execOp
  simp only [ho, resolve, invoke, builtin, Sem.run_bind, Sem.run_pure, Result.andThen_ok, List.map_toArray, List.map_cons, List.map_nil, hs, hx, hr]
  exact hK _ _ (h v' w' h2 h3 h4 h5)

end

end Go.Proofs.Ytfcocbcihhdbkaa

/- A map's block, its entries told by a list of keys and elements in the order in which they were laid: what a look-up, a store, a deletion and a length come to. -/
namespace Go.Proofs.Ytfcocbcihhdbkaa
open Go.RowKit Go.ChangeMaps Go.MapKept

set_option linter.unusedSectionVars false

section
variable {α β : Type} [DecidableEq α]

/-- what stands at a key -/
def look : List (α × β) → α → Option β
  | [], _ => none
  | (a, v) :: r, k => if a = k then some v else look r k

/-- a key with a new element: in its place, or behind all -/
def put : List (α × β) → α → β → List (α × β)
  | [], k, v => [(k, v)]
  | (a, x) :: r, k, v => if a = k then (k, v) :: r else (a, x) :: put r k v

/-- a key taken out -/
def del : List (α × β) → α → List (α × β)
  | [], _ => []
  | (a, x) :: r, k => if a = k then r else (a, x) :: del r k

theorem look_mem : ∀ {l : List (α × β)} {k : α} {v : β}, look l k = some v → (k, v) ∈ l
  | (a, x) :: r, k, v, h => by
    unfold look at h
    split at h
    · rename_i e; subst e; cases h; simp
    · exact List.mem_cons_of_mem _ (look_mem h)

theorem look_none : ∀ {l : List (α × β)} {k : α}, look l k = none ↔ ∀ p ∈ l, p.1 ≠ k
  | [], k => by simp [look]
  | (a, x) :: r, k => by
    unfold look
    split
    · rename_i e; subst e; simp
    · rename_i e
      rw [look_none]
      simp [e]

theorem look_of_mem : ∀ {l : List (α × β)} {k : α} {v : β}, (l.map (·.1)).Nodup → (k, v) ∈ l → look l k = some v
  | (a, x) :: r, k, v, hn, h => by
    simp only [List.map_cons, List.nodup_cons] at hn
    unfold look
    rcases List.mem_cons.1 h with e | h
    · cases e; simp
    · have : a ≠ k := by
        rintro rfl
        exact hn.1 (List.mem_map.2 ⟨_, h, rfl⟩)
      rw [if_neg this]
      exact look_of_mem hn.2 h

theorem look_at : ∀ {l : List (α × β)} {k : α} {v : β}, look l k = some v → ∃ j, l[j]? = some (k, v) ∧ (∀ u, put l k u = l.set j (k, u)) ∧ del l k = l.eraseIdx j
  | (a, x) :: r, k, v, h => by
    unfold look at h
    split at h
    · rename_i e
      subst e
      cases h
      exact ⟨0, rfl, fun u => by simp [put], by simp [del]⟩
    · rename_i e
      obtain ⟨j, h1, h2, h3⟩ := look_at h
      exact ⟨j + 1, by simpa using h1, fun u => by simp [put, e, h2 u], by simp [del, e, h3]⟩

theorem put_none : ∀ {l : List (α × β)} {k : α}, look l k = none → ∀ v, put l k v = l ++ [(k, v)]
  | [], k, _, v => rfl
  | (a, x) :: r, k, h, v => by
    unfold look at h
    split at h
    · cases h
    · rename_i e
      simp [put, e, put_none h v]

theorem del_none : ∀ {l : List (α × β)} {k : α}, look l k = none → del l k = l
  | [], k, _ => rfl
  | (a, x) :: r, k, h => by
    unfold look at h
    split at h
    · cases h
    · rename_i e
      simp [del, e, del_none h]

theorem look_put (l : List (α × β)) (k k' : α) (v : β) : look (put l k v) k' = if k = k' then some v else look l k' := by
  induction l with
  | nil => simp [put, look]
  | cons p r ih =>
    obtain ⟨a, x⟩ := p
    unfold put
    by_cases h : a = k
    · subst h
      by_cases h2 : a = k' <;> simp [look, h2]
    · rw [if_neg h]
      by_cases h2 : a = k'
      · subst h2
        simp [look, Ne.symm h]
      · simp [look, h2, ih]

theorem look_del (l : List (α × β)) (hn : (l.map (·.1)).Nodup) (k k' : α) : look (del l k) k' = if k = k' then none else look l k' := by
  induction l with
  | nil => simp [del, look]
  | cons p r ih =>
    obtain ⟨a, x⟩ := p
    simp only [List.map_cons, List.nodup_cons] at hn
    unfold del
    by_cases h : a = k
    · subst h
      rw [if_pos rfl]
      by_cases h2 : a = k'
      · subst h2
        rw [if_pos rfl]
        rw [look_none]
        intro p hp e
        exact hn.1 (List.mem_map.2 ⟨p, hp, e⟩)
      · simp [look, h2]
    · rw [if_neg h]
      by_cases h2 : a = k'
      · subst h2
        simp [look, Ne.symm h]
      · simp [look, h2, ih hn.2]

theorem keys_put_some {l : List (α × β)} {k : α} {x : β} (h : look l k = some x) (v : β) : (put l k v).map (·.1) = l.map (·.1) := by
  induction l with
  | nil => cases h
  | cons p r ih =>
    obtain ⟨a, y⟩ := p
    unfold look at h
    unfold put
    by_cases e : a = k
    · subst e; simp
    · rw [if_neg e] at h ⊢
      simp [ih h]

theorem look_map {γ : Type} (f : β → γ) (l : List (α × β)) (k : α) : look (l.map fun p => (p.1, f p.2)) k = (look l k).map f := by
  induction l with
  | nil => rfl
  | cons p r ih => obtain ⟨a, x⟩ := p; simp only [List.map_cons, look]; split <;> simp [ih]

theorem put_map {γ : Type} (f : β → γ) (l : List (α × β)) (k : α) (v : β) : put (l.map fun p => (p.1, f p.2)) k (f v) = (put l k v).map fun p => (p.1, f p.2) := by
  induction l with
  | nil => rfl
  | cons p r ih => obtain ⟨a, x⟩ := p; simp only [List.map_cons, put]; split <;> simp [ih]

theorem del_map {γ : Type} (f : β → γ) (l : List (α × β)) (k : α) : del (l.map fun p => (p.1, f p.2)) k = (del l k).map fun p => (p.1, f p.2) := by
  induction l with
  | nil => rfl
  | cons p r ih => obtain ⟨a, x⟩ := p; simp only [List.map_cons, del]; split <;> simp [ih]

theorem length_put (l : List (α × β)) (k : α) (v : β) : (put l k v).length = if (look l k).isSome then l.length else l.length + 1 := by
  induction l with
  | nil => simp [put, look]
  | cons p r ih =>
    obtain ⟨a, x⟩ := p
    unfold put look
    by_cases h : a = k
    · simp [h]
    · simp only [h, if_false, List.length_cons, ih]
      split <;> rfl
end

theorem nodup_of_map {γ δ : Type} (f : γ → δ) : ∀ l : List γ, (l.map f).Nodup → l.Nodup
  | [], _ => by simp
  | x :: r, h => by
    simp only [List.map_cons, List.nodup_cons] at h ⊢
    exact ⟨fun hx => h.1 (List.mem_map.2 ⟨x, hx, rfl⟩), nodup_of_map f r h.2⟩

theorem nodup_inj {γ : Type} {l : List γ} (h : l.Nodup) {i j : Nat} (hi : i < l.length) (hj : j < l.length) (e : l[i] = l[j]) : i = j := by
  rw [List.nodup_iff_pairwise_ne, List.pairwise_iff_getElem] at h
  rcases Nat.lt_trichotomy i j with hl | rfl | hl
  · exact absurd e (h i j hi hj hl)
  · rfl
  · exact absurd e.symm (h j i hj hi hl)

theorem eraseIdx_map {γ δ : Type} (f : γ → δ) : ∀ (l : List γ) (j : Nat), (l.eraseIdx j).map f = (l.map f).eraseIdx j
  | [], j => by simp
  | x :: r, 0 => by simp
  | x :: r, j + 1 => by simp [eraseIdx_map f r j]

/-! ### a map's block -/

/-- Keys of a type are told by the values of α. -/
structure KeyOk {α : Type} (d : TypeDesc) (mk : α → Value) : Prop where
  isKey : ∀ a, IsKey d (mk a)
  inj : ∀ a b, mk a = mk b → a = b
  bits : ∀ a, Instr.sameBits 10000 (mk a) (mk a) = true

theorem strKeyOk : KeyOk .string Value.string := ⟨fun _ => trivial, fun a b h => by injection h, fun a => by simp only [Instr.sameBits]; exact (MapKept.bytes_beq a a).2 rfl⟩
theorem intKeyOk : KeyOk (.int .i64) (Value.int .i64) := ⟨fun _ => rfl, fun a b h => by injection h, fun a => by simp [Instr.sameBits]⟩

/-- Block b is a map whose entries are l. -/
def MapAt {α : Type} (mk : α → Value) (w : World) (b : Nat) (l : List (α × Value)) : Prop :=
  ∃ es clock, w.heap[b]? = some (.map es clock) ∧ Stamped es clock ∧ es.toList.map (fun e => (e.key, e.val)) = l.map (fun p => (mk p.1, p.2))

section
variable {α : Type} {mk : α → Value} {w w' : World} {b : Nat} {l : List (α × Value)}

theorem MapAt.lt (h : MapAt mk w b l) : b < w.heap.size := by
  obtain ⟨es, clock, hb, _⟩ := h
  exact (Array.getElem?_eq_some_iff.1 hb).1

theorem MapAt.kept {S : Nat → Prop} (h : MapAt mk w b l) (hk : Keeps S w w') (hS : ¬ S b) : MapAt mk w' b l := by
  have hlt := h.lt
  obtain ⟨es, clock, hb, r⟩ := h
  exact ⟨es, clock, (hk.block b hlt hS).trans hb, r⟩

theorem MapAt.made (mk : α → Value) (w : World) : MapAt mk (w.alloc (.map #[] 0)) w.heap.size [] :=
  ⟨#[], 0, (MapKept.heap_alloc w _).1, stamped_empty 0, rfl⟩

theorem MapAt.keys (h : MapAt mk w b l) : (l.map (fun p => mk p.1)).Nodup := by
  obtain ⟨es, clock, hb, hs, he⟩ := h
  have := hs.2.2
  have h2 : es.toList.map (·.key) = l.map (fun p => mk p.1) := by
    have := congrArg (List.map (·.1)) he
    simpa [List.map_map, Function.comp_def] using this
  rwa [h2] at this

theorem MapAt.nodup (h : MapAt mk w b l) : (l.map (·.1)).Nodup := by
  have := h.keys
  have e : l.map (fun p => mk p.1) = (l.map (·.1)).map mk := by simp [List.map_map, Function.comp_def]
  rw [e] at this
  exact nodup_of_map mk _ this

end

section
variable {P : Program} {α : Type} [DecidableEq α] {d : TypeDesc} {mk : α → Value} {w : World} {b : Nat} {l : List (α × Value)} {kt e t : TypeId}

theorem find_entries (K : KeyOk d mk) {es : List MapEntry} (he : es.map (fun e => (e.key, e.val)) = l.map (fun p => (mk p.1, p.2))) (hn : (l.map (·.1)).Nodup) (k : α) :
    (look l k = none ∧ Instr.findNow d (mk k) es 0 = some none) ∨ ∃ j v, look l k = some v ∧ l[j]? = some (k, v) ∧ (∀ u, put l k u = l.set j (k, u)) ∧ del l k = l.eraseIdx j ∧ (∃ e, es[j]? = some e ∧ e.key = mk k ∧ e.val = v) ∧ Instr.findNow d (mk k) es 0 = some (some (j, v)) := by
  have hkeys : ∀ x ∈ es, IsKey d x.key := by
    intro x hx
    have : (x.key, x.val) ∈ l.map (fun p => (mk p.1, p.2)) := by rw [← he]; exact List.mem_map.2 ⟨x, hx, rfl⟩
    obtain ⟨p, _, hp⟩ := List.mem_map.1 this
    rw [← (Prod.mk.inj hp).1]
    exact K.isKey _
  have hat : ∀ j : Nat, (es[j]?).map (fun e => (e.key, e.val)) = (l[j]?).map (fun p => (mk p.1, p.2)) := by
    intro j
    have := congrArg (fun z => z[j]?) he
    simpa [List.getElem?_map] using this
  rcases findNow_spec (K.isKey k) es 0 hkeys with ⟨h1, h2⟩ | ⟨j, e0, h1, h2, h3⟩
  · refine .inl ⟨?_, h1⟩
    rw [look_none]
    intro p hp hk
    have : (mk p.1, p.2) ∈ es.map (fun e => (e.key, e.val)) := by rw [he]; exact List.mem_map.2 ⟨p, hp, rfl⟩
    obtain ⟨x, hx, hxe⟩ := List.mem_map.1 this
    exact h2 x hx ((Prod.mk.inj hxe).1.trans (by rw [hk]))
  · right
    have hj := hat j
    rw [h2] at hj
    cases hlj : l[j]? with
    | none => rw [hlj] at hj; simp at hj
    | some p =>
      rw [hlj] at hj
      simp only [Option.map_some, Option.some.injEq, Prod.mk.injEq] at hj
      have hpk : p.1 = k := K.inj _ _ (hj.1.symm.trans h3)
      obtain ⟨pk, pv⟩ := p
      simp only at hpk hj
      subst hpk
      have hm : (pk, pv) ∈ l := List.mem_of_getElem? hlj
      have hl := look_of_mem hn hm
      obtain ⟨j', g1, g2, g3⟩ := look_at hl
      have hjj : j' = j := by
        have hlt : j < l.length := (List.getElem?_eq_some_iff.1 hlj).1
        have hlt' : j' < l.length := (List.getElem?_eq_some_iff.1 g1).1
        have e1 : (l.map (·.1))[j]'(by simpa using hlt) = (l.map (·.1))[j']'(by simpa using hlt') := by
          simp only [List.getElem_map]
          rw [(List.getElem?_eq_some_iff.1 hlj).2, (List.getElem?_eq_some_iff.1 g1).2]
        exact nodup_inj hn _ _ e1.symm
      subst hjj
      refine ⟨j', pv, hl, hlj, g2, g3, ⟨e0, h2, h3, hj.2⟩, ?_⟩
      rw [h1, hj.2]
      simp

/-- 'm[k]', 'v, ok := m[k]' -/
theorem MapAt.lookup (K : KeyOk d mk) (h : MapAt mk w b l) (ht : P.underlying t = some (.map kt e)) (hd : P.underlying kt = some d) {z : Value} (hz : (zeroValue e).run P w = .ok z w) (k : α) (c : Bool) :
    (Instr.lookup t (.map (some b)) (mk k) c).run P w = .ok (if c then .tuple #[(look l k).getD z, .bool (look l k).isSome] else (look l k).getD z) w := by
  have hn := h.nodup
  obtain ⟨es, clock, hb, hs, he⟩ := h
  rcases find_entries K he hn k with ⟨h1, h2⟩ | ⟨j, v, h1, _, _, _, _, h2⟩
  · simp [Instr.lookup, run_underlying ht, MapKept.run_getObj_map hb, run_checkKey hd (K.isKey k), Instr.findKey, run_underlying hd, h2, hz, h1, Result.andThen]
  · simp [Instr.lookup, run_underlying ht, MapKept.run_getObj_map hb, run_checkKey hd (K.isKey k), Instr.findKey, run_underlying hd, h2, h1, Result.andThen]

/-- 'm[k] = v' -/
theorem MapAt.update (K : KeyOk d mk) (h : MapAt mk w b l) (ht : P.underlying t = some (.map kt e)) (hd : P.underlying kt = some d) (k : α) (v : Value) :
    ∃ o, (Instr.mapUpdate t (.map (some b)) (mk k) v).run P w = .ok () (setBlock w b o) ∧ MapAt mk (setBlock w b o) b (put l k v) := by
  have hn := h.nodup
  have hlt := h.lt
  obtain ⟨es, clock, hb, hs, he⟩ := h
  have hset : ∀ o, (setBlock w b o).heap[b]? = some o := fun o => by simp [setBlock, hlt]
  rcases find_entries K he hn k with ⟨h1, h2⟩ | ⟨j, x, h1, hj, hp, _, ⟨e0, he0, hk0, hv0⟩, h2⟩
  · refine ⟨.map (es.push { key := mk k, val := v, born := clock }) (clock + 1), ?_, _, _, hset _, stamped_push hs ?_, ?_⟩
    · simp [Instr.mapUpdate, run_underlying ht, MapKept.run_getObj_map hb, run_checkKey hd (K.isKey k), Instr.findKey, run_underlying hd, h2, setObj, Sem.run, hb, setBlock, Result.andThen]
    · intro x hx hxk
      have : (x.key, x.val) ∈ l.map (fun p => (mk p.1, p.2)) := by rw [← he]; exact List.mem_map.2 ⟨x, hx, rfl⟩
      obtain ⟨p, hp, hpe⟩ := List.mem_map.1 this
      exact look_none.1 h1 p hp (K.inj _ _ ((Prod.mk.inj hpe).1.trans hxk))
    · rw [put_none h1]
      simp [he]
  · have hes : es[j]? = some e0 := by rw [← Array.getElem?_toList]; exact he0
    refine ⟨.map (es.modify j fun e => { e with key := mk k, val := v }) clock, ?_, _, _, hset _, stamped_modify hs j _ (fun _ _ => rfl) (fun e _ hej => ?_), ?_⟩
    · simp [Instr.mapUpdate, run_underlying ht, MapKept.run_getObj_map hb, run_checkKey hd (K.isKey k), Instr.findKey, run_underlying hd, h2, hes, hk0, Instr.keyThatStays, K.bits, setObj, Sem.run, hb, setBlock, Result.andThen]
    · rw [hes] at hej
      cases hej
      exact hk0.symm
    · rw [hp v]
      apply List.ext_getElem?
      intro i
      have hat : (es.toList[i]?).map (fun e => (e.key, e.val)) = (l[i]?).map (fun p => (mk p.1, p.2)) := by
        have := congrArg (fun z => z[i]?) he
        simpa [List.getElem?_map] using this
      simp only [List.getElem?_map, Array.getElem?_toList, Array.getElem?_modify, List.getElem?_set] at hat ⊢
      by_cases hij : j = i
      · subst hij
        have hjl : j < l.length := (List.getElem?_eq_some_iff.1 hj).1
        simp [hes, hjl]
      · simp [hij, hat]

/-- 'delete(m, k)' -/
theorem MapAt.delete (K : KeyOk d mk) (h : MapAt mk w b l) (ht : P.underlying t = some (.map kt e)) (hd : P.underlying kt = some d) (k : α) (ty : TypeId) :
    ∃ o, (Builtin.delete_ #[t, kt] ty #[.map (some b), mk k]).run P w = .ok (.tuple #[]) (setBlock w b o) ∧ MapAt mk (setBlock w b o) b (del l k) := by
  have hn := h.nodup
  have hlt := h.lt
  obtain ⟨es, clock, hb, hs, he⟩ := h
  have hset : ∀ o, (setBlock w b o).heap[b]? = some o := fun o => by simp [setBlock, hlt]
  rcases find_entries K he hn k with ⟨h1, h2⟩ | ⟨j, x, h1, hj, _, hdl, ⟨e0, he0, hk0, hv0⟩, h2⟩
  · refine ⟨.map es clock, ?_, es, clock, hset _, hs, ?_⟩
    · simp [Builtin.delete_, run_underlying ht, MapKept.run_getObj_map hb, run_checkKey hd (K.isKey k), Instr.findKey, run_underlying hd, h2, setObj, Sem.run, hb, setBlock, Result.andThen]
    · rw [del_none h1]; exact he
  · refine ⟨.map (es.eraseIdxIfInBounds j) clock, ?_, _, _, hset _, stamped_erase hs j, ?_⟩
    · simp [Builtin.delete_, run_underlying ht, MapKept.run_getObj_map hb, run_checkKey hd (K.isKey k), Instr.findKey, run_underlying hd, h2, setObj, Sem.run, hb, setBlock, Result.andThen]
    · rw [hdl]
      have hjs : j < es.size := by
        have := (List.getElem?_eq_some_iff.1 he0).1
        simpa using this
      simp only [Array.eraseIdxIfInBounds, hjs, dif_pos, Array.toList_eraseIdx]
      rw [eraseIdx_map, eraseIdx_map, he]

theorem MapAt.length (h : MapAt mk w b l) (ht : P.underlying t = some (.map kt e)) (ty : TypeId) :
    (Builtin.len_ #[t] ty #[.map (some b)]).run P w = .ok (.int .i64 l.length) w := by
  obtain ⟨es, clock, hb, hs, he⟩ := h
  have hl : es.size = l.length := by
    have := congrArg List.length he
    simpa using this
  simp [Builtin.len_, run_underlying ht, MapKept.run_getObj_map hb, hl, goInt, Result.andThen]

end

/-! ### going through a map -/

theorem filter_par {A B C : Type} (f : A → C) (g : B → C) (p : A → Bool) (q : B → Bool) : ∀ (la : List A) (lb : List B), la.map f = lb.map g → (∀ a ∈ la, ∀ b ∈ lb, f a = g b → p a = q b) → (la.filter p).map f = (lb.filter q).map g
  | [], [], _, _ => rfl
  | [], _ :: _, h, _ => by simp at h
  | _ :: _, [], h, _ => by simp at h
  | a :: la, b :: lb, h, hpq => by
    simp only [List.map_cons, List.cons.injEq] at h
    have ih := filter_par f g p q la lb h.2 (fun x hx y hy => hpq x (by simp [hx]) y (by simp [hy]))
    have h1 := hpq a (by simp) b (by simp) h.1
    by_cases hp : p a = true
    · have hq : q b = true := by rw [← h1]; exact hp
      simp [hp, hq, ih, h.1]
    · have hq : ¬ q b = true := by rw [← h1]; exact hp
      simp [hp, hq, ih]

/-- Block r goes through the map in block b; left is what has not come yet. -/
def IterAt {α : Type} (mk : α → Value) (w : World) (r b : Nat) (l left : List (α × Value)) : Prop :=
  ∃ es clock since seen, w.heap[b]? = some (.map es clock) ∧ Stamped es clock ∧ es.toList.map (fun e => (e.key, e.val)) = l.map (fun p => (mk p.1, p.2)) ∧
    w.heap[r]? = some (.mapIter (some b) since seen clock) ∧ (∀ x ∈ es.toList, x.born < since) ∧ since ≤ clock ∧
    (leftOf es seen).toList.map (fun e => (e.key, e.val)) = left.map (fun p => (mk p.1, p.2))

section
variable {P : Program} {α : Type} [DecidableEq α] {d : TypeDesc} {mk : α → Value} {w : World} {b r : Nat} {l left : List (α × Value)} {kt e t : TypeId}

theorem IterAt.map (h : IterAt mk w r b l left) : MapAt mk w b l := by
  obtain ⟨es, clock, since, seen, hb, hs, he, _⟩ := h
  exact ⟨es, clock, hb, hs, he⟩

theorem IterAt.kept {w' : World} {S : Nat → Prop} (h : IterAt mk w r b l left) (hk : Keeps S w w') (hb : ¬ S b) (hr : ¬ S r) : IterAt mk w' r b l left := by
  obtain ⟨es, clock, since, seen, h1, hs, he, h2, rest⟩ := h
  exact ⟨es, clock, since, seen, (hk.block b (Array.getElem?_eq_some_iff.1 h1).1 hb).trans h1, hs, he, (hk.block r (Array.getElem?_eq_some_iff.1 h2).1 hr).trans h2, rest⟩

/-- 'range m' -/
theorem MapAt.range (h : MapAt mk w b l) (ht : P.underlying t = some (.map kt e)) :
    ∃ o, (Instr.range t (.map (some b))).run P w = .ok (.pointer (some ⟨w.heap.size, 0, none⟩)) (w.alloc o) ∧ IterAt mk (w.alloc o) w.heap.size b l l := by
  have hlt := h.lt
  obtain ⟨es, clock, hb, hs, he⟩ := h
  refine ⟨.mapIter (some b) clock #[] clock, ?_, es, clock, clock, #[], (Below.heap_alloc _ _ _ hlt).trans hb, hs, he, (MapKept.heap_alloc w _).1, hs.1, Nat.le_refl _, ?_⟩
  · simp [Instr.range, run_underlying ht, MapKept.run_getObj_map hb, newObj, Sem.run, Result.andThen]
  · have : leftOf es #[] = es := by simp [leftOf]
    rw [this]; exact he

theorem del_filter {β : Type} (l : List (α × β)) (hn : (l.map (·.1)).Nodup) (k : α) : del l k = l.filter (fun p => p.1 ≠ k) := by
  induction l with
  | nil => rfl
  | cons p r ih =>
    obtain ⟨a, x⟩ := p
    simp only [List.map_cons, List.nodup_cons] at hn
    unfold del
    by_cases h : a = k
    · subst h
      rw [if_pos rfl]
      have : r.filter (fun p => p.1 ≠ a) = r := by
        rw [List.filter_eq_self]
        intro q hq
        simp only [ne_eq, decide_not, Bool.not_eq_eq_eq_not, Bool.not_true, decide_eq_false_iff_not]
        intro e
        exact hn.1 (List.mem_map.2 ⟨q, hq, e⟩)
      rw [List.filter_cons, if_neg (by simp), this]
    · rw [if_neg h, ih hn.2]
      simp [h]

theorem IterAt.next (K : KeyOk d mk) (h : IterAt mk w r b l left) (ty : TypeId) :
    (left = [] ∧ (Instr.next (.pointer (some ⟨r, 0, none⟩)) false ty).run P w = .ok (.tuple #[.bool false]) w) ∨
    ∃ k v w', (k, v) ∈ left ∧ (Instr.next (.pointer (some ⟨r, 0, none⟩)) false ty).run P w = .ok (.tuple #[.bool true, mk k, v]) w' ∧ IterAt mk w' r b l (del left k) ∧
      Keeps (· = r) w w' ∧ w'.heap.size = w.heap.size ∧ (Instr.entry (.pointer (some ⟨r, 0, none⟩))).run P w' = .ok (.tuple #[mk k, v]) w' := by
  have hmap := h.map
  obtain ⟨es, clock, since, seen, hb, hs, he, hr, hold, hsc, hleft⟩ := h
  have hbr : b ≠ r := by rintro rfl; rw [hb] at hr; cases hr
  rcases run_next_at (P := P) w ty r b since clock seen es clock hr hb hold hsc with ⟨h0, hrun⟩ | ⟨e0, he0, w1, hw1, hrun⟩
  · refine .inl ⟨?_, hrun⟩
    have : (leftOf es seen).toList = [] := by
      apply List.eq_nil_of_length_eq_zero
      simpa using h0
    rw [this] at hleft
    simpa using hleft.symm
  · right
    have hm : (e0.key, e0.val) ∈ left.map (fun p => (mk p.1, p.2)) := by rw [← hleft]; exact List.mem_map.2 ⟨e0, he0, rfl⟩
    obtain ⟨⟨k, v⟩, hkv, hpe⟩ := List.mem_map.1 hm
    simp only [Prod.mk.injEq] at hpe
    have hk1 : Keeps (· = r) w w1 := by rcases hw1 with rfl | rfl; exact Keeps.refl _ _; exact Keeps.drew _ _
    have hz1 : w1.heap = w.heap := by rcases hw1 with rfl | rfl <;> rfl
    have hrlt : r < w.heap.size := (Array.getElem?_eq_some_iff.1 hr).1
    have hb' : (setBlock w1 r (.mapIter (some b) since (seen.push e0.born) clock)).heap[b]? = some (.map es clock) := by
      simp [setBlock, hz1, Ne.symm hbr, hb]
    have hr' : (setBlock w1 r (.mapIter (some b) since (seen.push e0.born) clock)).heap[r]? = some (.mapIter (some b) since (seen.push e0.born) clock) := by
      simp [setBlock, hz1, hrlt]
    have hin : e0 ∈ es.toList := by
      simp only [leftOf, Array.toList_filter] at he0
      exact (List.mem_filter.1 he0).1
    refine ⟨k, v, _, hkv, by rw [hrun, hpe.1, hpe.2], ⟨es, clock, since, seen.push e0.born, hb', hs, he, hr', hold, hsc, ?_⟩, hk1.trans (Keeps.setBlock _ _ _) (fun i _ hi => hi), by simp [setBlock, hz1], ?_⟩
    · have hnl : (left.map (·.1)).Nodup := by
        have h1 : ((leftOf es seen).toList.map (·.key)).Nodup := by
          have : (leftOf es seen).toList.Sublist es.toList := by simp only [leftOf, Array.toList_filter]; exact List.filter_sublist
          exact List.Nodup.sublist (List.Sublist.map _ this) hs.2.2
        have h2 : (leftOf es seen).toList.map (·.key) = (left.map (·.1)).map mk := by
          have := congrArg (List.map (·.1)) hleft
          simpa [List.map_map, Function.comp_def] using this
        rw [h2] at h1
        exact nodup_of_map mk _ h1
      rw [del_filter left hnl]
      have h3 : (leftOf es (seen.push e0.born)).toList = (leftOf es seen).toList.filter (fun x => x.born != e0.born) := by
        simp only [leftOf, Array.toList_filter, List.filter_filter]
        apply List.filter_congr
        intro x _
        simp only [Array.contains_push, Bool.not_or, bne]
        rw [Bool.and_comm]
      rw [h3]
      refine filter_par _ _ _ _ _ _ hleft (fun x hx pr _ hxp => ?_)
      have hxin : x ∈ es.toList := by
        simp only [leftOf, Array.toList_filter] at hx
        exact (List.mem_filter.1 hx).1
      have iff1 : x.born = e0.born ↔ x.key = e0.key := by
        obtain ⟨i, hi, rfl⟩ := List.getElem_of_mem hxin
        obtain ⟨j, hj, hje⟩ := List.getElem_of_mem hin
        constructor
        · intro h
          have : i = j := nodup_inj hs.2.1 (by simpa using hi) (by simpa using hj) (by simp only [List.getElem_map]; rw [h, hje])
          subst this
          rw [hje]
        · intro h
          have : i = j := nodup_inj hs.2.2 (by simpa using hi) (by simpa using hj) (by simp only [List.getElem_map]; rw [h, hje])
          subst this
          rw [hje]
      have hxk := (Prod.mk.inj hxp).1
      have iff2 : x.born = e0.born ↔ pr.1 = k := by
        rw [iff1, hxk, ← hpe.1]
        exact ⟨fun h => K.inj _ _ h, fun h => by rw [h]⟩
      rw [Bool.eq_iff_iff]
      simp only [bne_iff_ne, ne_eq, decide_not, Bool.not_eq_eq_eq_not, Bool.not_true, decide_eq_false_iff_not]
      exact not_congr iff2
    · have := run_entry_at (P := P) _ r b since seen es clock e0 hr' hb' hin hs.2.1
      rw [this, hpe.1, hpe.2]

end

/-! ### at the operations, for the walk -/
section
variable {P : Program} {α : Type} [DecidableEq α] {d : TypeDesc} {mk : α → Value} (w : World) {ops : Array Oper} {rest : List Oper} {o : Oper} {a : Act} {Q : Exit → Act → World → Prop}

theorem wpList_lookup_at (hg : o.guard = none) (m x : Operand) (t : TypeId) (hop : o.op = Op.lookup t m x false) (kt e : TypeId) (K : KeyOk d mk) (ht : P.underlying t = some (.map kt e)) (hd : P.underlying kt = some d)
    (z : Value) (hz : (zeroValue e).run P w = .ok z w) (b : Nat) (hm : a.eval m = .map (some b)) (k : α) (hx : a.eval x = mk k) (l : List (α × Value)) (hown : MapAt mk w b l)
    (hK : wpList P ops Q rest (a.put o.dst ((look l k).getD z)) w) : wpList P ops Q (o :: rest) a w := by
  refine wpList_plain hg fun K' hK' => ?_
  unfold Oper.wp
  simp [execOp, hop, hm, hx, hown.lookup K ht hd hz k false, Result.andThen]
  exact hK' _ _ hK

theorem wpList_lookup_ok_at (hg : o.guard = none) (m x : Operand) (t : TypeId) (hop : o.op = Op.lookup t m x true) (kt e : TypeId) (K : KeyOk d mk) (ht : P.underlying t = some (.map kt e)) (hd : P.underlying kt = some d)
    (z : Value) (hz : (zeroValue e).run P w = .ok z w) (b : Nat) (hm : a.eval m = .map (some b)) (k : α) (hx : a.eval x = mk k) (l : List (α × Value)) (hown : MapAt mk w b l)
    (hK : wpList P ops Q rest (a.put o.dst (.tuple #[(look l k).getD z, .bool (look l k).isSome])) w) : wpList P ops Q (o :: rest) a w := by
  refine wpList_plain hg fun K' hK' => ?_
  unfold Oper.wp
  simp [execOp, hop, hm, hx, hown.lookup K ht hd hz k true, Result.andThen]
  exact hK' _ _ hK

theorem wpList_mapUpdate_at (hg : o.guard = none) (m x v : Operand) (t : TypeId) (hop : o.op = Op.mapUpdate t m x v) (kt e : TypeId) (K : KeyOk d mk) (ht : P.underlying t = some (.map kt e)) (hd : P.underlying kt = some d)
    (b : Nat) (hm : a.eval m = .map (some b)) (k : α) (hx : a.eval x = mk k) (val : Value) (hv : a.eval v = val) (l : List (α × Value)) (hown : MapAt mk w b l)
    (hK : ∀ w', MapAt mk w' b (put l k val) → Keeps (· = b) w w' → w'.heap.size = w.heap.size → wpList P ops Q rest (a.put o.dst undef) w') : wpList P ops Q (o :: rest) a w := by
  refine wpList_plain hg fun K' hK' => ?_
  obtain ⟨ob, hrun, hw'⟩ := hown.update (e := e) K ht hd k val
  unfold Oper.wp
  simp [execOp, hop, hm, hx, hv, hrun, Result.andThen]
  exact hK' _ _ (hK _ hw' (Keeps.setBlock _ _ _) (by simp [setBlock]))

theorem wpList_delete_at (hg : o.guard = none) (m x : Operand) (t kt : TypeId) (hop : o.op = Op.call { callee := Callee.builtin Builtin.delete, args := #[m, x], argTypes := #[t, kt] }) (e : TypeId) (K : KeyOk d mk) (ht : P.underlying t = some (.map kt e)) (hd : P.underlying kt = some d)
    (b : Nat) (hm : a.eval m = .map (some b)) (k : α) (hx : a.eval x = mk k) (l : List (α × Value)) (hown : MapAt mk w b l)
    (hK : ∀ w', MapAt mk w' b (del l k) → Keeps (· = b) w w' → w'.heap.size = w.heap.size → wpList P ops Q rest (a.put o.dst (.tuple #[])) w') : wpList P ops Q (o :: rest) a w := by
  refine wpList_plain hg fun K' hK' => ?_
  obtain ⟨ob, hrun, hw'⟩ := hown.delete K ht hd k o.type
  unfold Oper.wp
  simp [execOp, hop, resolve, invoke, builtin, hm, hx, hrun, Result.andThen]
  exact hK' _ _ (hK _ hw' (Keeps.setBlock _ _ _) (by simp [setBlock]))

theorem wpList_len_at (hg : o.guard = none) (m : Operand) (t : TypeId) (hop : o.op = Op.call { callee := Callee.builtin Builtin.len, args := #[m], argTypes := #[t] }) (kt e : TypeId) (ht : P.underlying t = some (.map kt e))
    (b : Nat) (hm : a.eval m = .map (some b)) (l : List (α × Value)) (hown : MapAt mk w b l)
    (hK : wpList P ops Q rest (a.put o.dst (.int .i64 l.length)) w) : wpList P ops Q (o :: rest) a w := by
  refine wpList_plain hg fun K' hK' => ?_
  unfold Oper.wp
  simp [execOp, hop, resolve, invoke, builtin, hm, hown.length ht o.type, Result.andThen]
  exact hK' _ _ hK

theorem wpList_range_at (hg : o.guard = none) (m : Operand) (t : TypeId) (hop : o.op = Op.range t m) (kt e : TypeId) (ht : P.underlying t = some (.map kt e))
    (b : Nat) (hm : a.eval m = .map (some b)) (l : List (α × Value)) (hown : MapAt mk w b l)
    (hK : ∀ w', IterAt mk w' w.heap.size b l l → Keeps (fun _ => False) w w' → w'.heap.size = w.heap.size + 1 → wpList P ops Q rest (a.put o.dst (.pointer (some ⟨w.heap.size, 0, none⟩))) w') : wpList P ops Q (o :: rest) a w := by
  refine wpList_plain hg fun K' hK' => ?_
  obtain ⟨ob, hrun, hw'⟩ := hown.range (P := P) ht
  unfold Oper.wp
  simp [execOp, hop, hm, hrun, Result.andThen]
  exact hK' _ _ (hK _ hw' (Keeps.alloc _ _ _) (by simp))

theorem wpList_next_at (hg : o.guard = none) (it : Operand) (hop : o.op = Op.next it false) (K : KeyOk d mk) (b r : Nat) (hit : a.eval it = .pointer (some ⟨r, 0, none⟩)) (l left : List (α × Value)) (h : IterAt mk w r b l left)
    (hDone : left = [] → wpList P ops Q rest (a.put o.dst (.tuple #[.bool false])) w)
    (hMore : ∀ k v w', (k, v) ∈ left → IterAt mk w' r b l (del left k) → Keeps (· = r) w w' → w'.heap.size = w.heap.size → (Instr.entry (.pointer (some ⟨r, 0, none⟩))).run P w' = .ok (.tuple #[mk k, v]) w' → wpList P ops Q rest (a.put o.dst (.tuple #[.bool true, mk k, v])) w') :
    wpList P ops Q (o :: rest) a w := by
  refine wpList_plain hg fun K' hK' => ?_
  unfold Oper.wp
  rcases h.next (P := P) K o.type with ⟨h0, hrun⟩ | ⟨k, v, w', hkv, hrun, hit', hk, hsz, hen⟩
  · simp [execOp, hop, hit, hrun, Result.andThen]
    exact hK' _ _ (hDone h0)
  · simp [execOp, hop, hit, hrun, Result.andThen]
    exact hK' _ _ (hMore k v w' hkv hit' hk hsz hen)

end

/-! ### a map that may be nil -/

/-- A map value: nil, and there is nothing; or a block. -/
def OptMap {α : Type} (mk : α → Value) (w : World) (ob : Option Nat) (l : List (α × Value)) : Prop :=
  match ob with
  | none => l = []
  | some b => MapAt mk w b l

theorem OptMap.kept {α : Type} {mk : α → Value} {w w' : World} {ob : Option Nat} {l : List (α × Value)} {S : Nat → Prop} (h : OptMap mk w ob l) (hk : Keeps S w w') (hS : ∀ b, ob = some b → ¬ S b) : OptMap mk w' ob l := by
  cases ob with
  | none => exact h
  | some b => exact MapAt.kept h hk (hS b rfl)

theorem OptMap.lt {α : Type} {mk : α → Value} {w : World} {ob : Option Nat} {l : List (α × Value)} (h : OptMap mk w ob l) {b : Nat} (hb : ob = some b) : b < w.heap.size := by
  subst hb
  exact MapAt.lt h

section
variable {P : Program} {α : Type} [DecidableEq α] {d : TypeDesc} {mk : α → Value} {w : World} {ob : Option Nat} {l : List (α × Value)} {kt e t : TypeId}

theorem OptMap.lookup (K : KeyOk d mk) (h : OptMap mk w ob l) (ht : P.underlying t = some (.map kt e)) (hd : P.underlying kt = some d) {z : Value} (hz : (zeroValue e).run P w = .ok z w) (k : α) (c : Bool) :
    (Instr.lookup t (.map ob) (mk k) c).run P w = .ok (if c then .tuple #[(look l k).getD z, .bool (look l k).isSome] else (look l k).getD z) w := by
  cases ob with
  | some b => exact MapAt.lookup K h ht hd hz k c
  | none =>
    have h' : l = [] := h
    subst h'
    simp [Instr.lookup, run_underlying ht, run_checkKey hd (K.isKey k), Instr.findKey, run_underlying hd, Instr.findNow, look, hz, Result.andThen]

theorem OptMap.length (h : OptMap mk w ob l) (ht : P.underlying t = some (.map kt e)) (ty : TypeId) :
    (Builtin.len_ #[t] ty #[.map ob]).run P w = .ok (.int .i64 l.length) w := by
  cases ob with
  | some b => exact MapAt.length h ht ty
  | none =>
    have h' : l = [] := h
    subst h'
    simp [Builtin.len_, run_underlying ht, goInt, Result.andThen]

theorem OptMap.nodup (h : OptMap mk w ob l) : (l.map (·.1)).Nodup := by
  cases ob with
  | some b => exact MapAt.nodup h
  | none =>
    have h' : l = [] := h
    subst h'
    simp

variable {ops : Array Oper} {rest : List Oper} {o : Oper} {a : Act} {Q : Exit → Act → World → Prop}

theorem wpList_lookup_opt (w : World) (hg : o.guard = none) (m x : Operand) (t : TypeId) (hop : o.op = Op.lookup t m x false) (kt e : TypeId) (K : KeyOk d mk) (ht : P.underlying t = some (.map kt e)) (hd : P.underlying kt = some d)
    (z : Value) (hz : (zeroValue e).run P w = .ok z w) (ob : Option Nat) (hm : a.eval m = .map ob) (k : α) (hx : a.eval x = mk k) (l : List (α × Value)) (hown : OptMap mk w ob l)
    (hK : wpList P ops Q rest (a.put o.dst ((look l k).getD z)) w) : wpList P ops Q (o :: rest) a w := by
  refine wpList_plain hg fun K' hK' => ?_
  unfold Oper.wp
  simp [execOp, hop, hm, hx, hown.lookup K ht hd hz k false, Result.andThen]
  exact hK' _ _ hK

theorem wpList_lookup_ok_opt (w : World) (hg : o.guard = none) (m x : Operand) (t : TypeId) (hop : o.op = Op.lookup t m x true) (kt e : TypeId) (K : KeyOk d mk) (ht : P.underlying t = some (.map kt e)) (hd : P.underlying kt = some d)
    (z : Value) (hz : (zeroValue e).run P w = .ok z w) (ob : Option Nat) (hm : a.eval m = .map ob) (k : α) (hx : a.eval x = mk k) (l : List (α × Value)) (hown : OptMap mk w ob l)
    (hK : wpList P ops Q rest (a.put o.dst (.tuple #[(look l k).getD z, .bool (look l k).isSome])) w) : wpList P ops Q (o :: rest) a w := by
  refine wpList_plain hg fun K' hK' => ?_
  unfold Oper.wp
  simp [execOp, hop, hm, hx, hown.lookup K ht hd hz k true, Result.andThen]
  exact hK' _ _ hK

theorem wpList_len_opt (w : World) (hg : o.guard = none) (m : Operand) (t : TypeId) (hop : o.op = Op.call { callee := Callee.builtin Builtin.len, args := #[m], argTypes := #[t] }) (kt e : TypeId) (ht : P.underlying t = some (.map kt e))
    (ob : Option Nat) (hm : a.eval m = .map ob) (l : List (α × Value)) (hown : OptMap mk w ob l)
    (hK : wpList P ops Q rest (a.put o.dst (.int .i64 l.length)) w) : wpList P ops Q (o :: rest) a w := by
  refine wpList_plain hg fun K' hK' => ?_
  unfold Oper.wp
  simp [execOp, hop, resolve, invoke, builtin, hm, hown.length ht o.type, Result.andThen]
  exact hK' _ _ hK

end

end Go.Proofs.Ytfcocbcihhdbkaa

/- Small functions of the program and of the statements: what they give. -/
namespace Go.Proofs.Ytfcocbcihhdbkaa
open Go.RowKit

theorem ret_bool {a b : Bool} (h : a = b) : Ending.returned (.bool a) = .returned (.bool b) := by rw [h]
theorem ret_int {k : IntKind} {a b : Int} (h : a = b) : Ending.returned (.int k a) = .returned (.int k b) := by rw [h]

theorem ret_string {a b : ByteArray} (h : a = b) : Ending.returned (.string a) = .returned (.string b) := by rw [h]

theorem extract_all (s : ByteArray) (n : Nat) (h : s.size ≤ n) : s.extract 0 n = s := by
  apply ByteArray.ext
  simp only [ByteArray.data_extract]
  rw [Array.extract_eq_self_of_le]
  exact h

/-- is it a key? -/
def keyB (s : ByteArray) : Bool := decide (1 ≤ s.size) && decide (s.size ≤ 10)
/-- is it a value? -/
def valB (s : ByteArray) : Bool := decide (s.size ≤ 40)

theorem isKey_any (s : ByteArray) (w : World) (hs : s.size ≤ maxLen) :
    Calls Try.prog 33 #[.string s] w fun e w' => e = .returned (.bool (keyB s)) ∧ w' = w := by
  unfold maxLen at hs
  go_enter Try.func33, Try.ntmps33
  go_wp2
  all_goals go_ret
  · refine ⟨ret_bool ?_, rfl⟩
    unfold keyB
    rw [Bool.eq_iff_iff]
    simp
    omega
  · refine ⟨ret_bool ?_, rfl⟩
    unfold keyB
    rw [Bool.eq_iff_iff]
    simp
    omega

theorem isValue_any (s : ByteArray) (w : World) (hs : s.size ≤ maxLen) :
    Calls Try.prog 48 #[.string s] w fun e w' => e = .returned (.bool (valB s)) ∧ w' = w := by
  unfold maxLen at hs
  go_enter Try.func48, Try.ntmps48
  go_wp2
  all_goals go_ret
  refine ⟨ret_bool ?_, rfl⟩
  unfold valB
  rw [Bool.eq_iff_iff]
  simp
  omega

/-- which of n things a raw number speaks of -/
def pickZ (c : Int) (n : Int) : Int := if c < 0 then (-(c + 1)) % n else c % n

theorem pick_any (c n : Int) (w : World) (hc : -9223372036854775808 ≤ c ∧ c ≤ 9223372036854775807) (hn : 1 ≤ n ∧ n ≤ 1000000) :
    Calls Try.prog 8 #[.int .i64 c, .int .i64 n] w fun e w' => e = .returned (.int .i64 (pickZ c n)) ∧ w' = w := by
  obtain ⟨h1, h2⟩ := hc
  obtain ⟨h3, h4⟩ := hn
  go_enter Try.func8, Try.ntmps8
  go_wp2
  all_goals go_ret
  · refine ⟨ret_int ?_, rfl⟩
    unfold pickZ
    rw [if_pos (by assumption), ← Int.neg_tmod, Int.tmod_eq_emod_of_nonneg (by omega)]
  · refine ⟨ret_int ?_, rfl⟩
    unfold pickZ
    rw [if_neg (by omega)]

theorem cut_any (s : ByteArray) (w : World) (hs : s.size ≤ maxLen) :
    Calls Try.prog 9 #[.string s] w fun e w' => e = .returned (.string (s.extract 0 40)) ∧ w' = w := by
  unfold maxLen at hs
  go_enter Try.func9, Try.ntmps9
  go_wp2
  all_goals go_ret
  · exact ⟨rfl, rfl⟩
  · refine ⟨ret_string ?_, rfl⟩
    rw [extract_all s 40 (by omega)]

/-- the k-th of twelve keys -/
def keyZ (k : Int) : ByteArray := (ByteArray.mk #[107, 101, 121]).extract 0 (1 + k % 3).toNat ++ (ByteArray.mk #[97, 98, 99, 100, 101, 102, 103, 104, 105, 106, 107, 108]).extract k.toNat (k + 1).toNat

theorem keyZ_eq (k : Int) : keyZ k = (ByteArray.mk #[107, 101, 121]).extract 0 (1 + k % 3).toNat ++ (ByteArray.mk #[97, 98, 99, 100, 101, 102, 103, 104, 105, 106, 107, 108]).extract k.toNat (k + 1).toNat := rfl

theorem key_any (k : Int) (w : World) (hk : 0 ≤ k ∧ k < 12) :
    Calls Try.prog 11 #[.int .i64 k] w fun e w' => e = .returned (.string (keyZ k)) ∧ Keeps (fun _ => False) w w' := by
  obtain ⟨h1, h2⟩ := hk
  go_enter Try.func11, Try.ntmps11
  go_wp2
  go_region
  go_wp2
  go_ret
  exact ⟨rfl, Keeps.drew _ _⟩

end Go.Proofs.Ytfcocbcihhdbkaa

/- What one call does to a store, told by the steps that take it back: undoBy, assign, putBack, enter, remove. -/
namespace Go.Proofs.Ytfcocbcihhdbkaa
open Go.RowKit

theorem Try.infoFn : (Try.prog.info? 1).map (fun i => (i.zero, i.size, i.bytes)) = some (some .nilFunc, 1, 8) := by kernel_rfl

/-- Block cb holds the list fs of steps; C: the blocks that it lies in. -/
def Chg (w : World) (cb : Nat) (fs : List Value) (C : List Nat) : Prop :=
  ∃ v, w.heap[cb]? = some (.cells #[v] 56 (0, 0)) ∧ Row w 1 1 v fs.length fs ∧ v.ownBlock ≠ some cb ∧ C = cb :: v.ownBlock.toList

theorem Chg.kept {w w' : World} {cb : Nat} {fs : List Value} {C : List Nat} {S : Nat → Prop} (h : Chg w cb fs C) (hk : Keeps S w w') (hS : ∀ k, k ∈ C → ¬ S k) : Chg w' cb fs C := by
  obtain ⟨v, hb, hr, hne, rfl⟩ := h
  refine ⟨v, ?_, hr.kept hk (fun g hg => hS g (by simp [hg])), hne, rfl⟩
  rw [hk.block cb (Array.getElem?_eq_some_iff.1 hb).1 (hS cb (by simp))]
  exact hb

theorem Chg.lt {w : World} {cb : Nat} {fs : List Value} {C : List Nat} (h : Chg w cb fs C) : ∀ k ∈ C, k < w.heap.size := by
  obtain ⟨v, hb, hr, hne, rfl⟩ := h
  intro k hk
  rcases List.mem_cons.1 hk with rfl | hk
  · exact (Array.getElem?_eq_some_iff.1 hb).1
  · exact hr.lt (by simpa using hk)

theorem undoBy_cell {w w1 : World} {cb : Nat} {v : Value} {o : Obj} (hlt : cb < w.heap.size) (hb : Hid (w.heap[cb]? = some (.cells #[v] 56 (0, 0)))) (hne : Hid (v.ownBlock ≠ some cb)) (hg : (w.alloc o).grownBy w1 v.ownBlock) :
    w1.cell? ⟨cb, 0, none⟩ = some v ∧ w1.frozen? ⟨cb, 0, none⟩ = false ∧ w.heap.size + 1 ≤ w1.heap.size := by
  have h1 : w1.heap[cb]? = some (.cells #[v] 56 (0, 0)) := by
    rw [hg.block cb (by simp; omega) (fun e => hne.out e.symm), Below.heap_alloc _ _ _ hlt]
    exact hb.out
  exact ⟨by simp [World.cell?, h1], by simp [World.frozen?, h1], by simpa using hg.size⟩

set_option maxRecDepth 100000 in
set_option maxHeartbeats 400000 in
theorem undoBy_any (cb : Nat) (fs : List Value) (C : List Nat) (fn : Fn) (cap : Array Value) (w : World) (h : Chg w cb fs C) (hl : fs.length < 1000000000000) :
    Calls Try.prog 42 #[.pointer (some ⟨cb, 0, none⟩), .func fn #[] cap] w fun e w' => e = .returned (.tuple #[]) ∧
      ∃ C', Chg w' cb (fs ++ [.func fn #[] cap]) C' ∧ Keeps (· ∈ C) w w' ∧ ∀ k ∈ C', k ∈ C ∨ w.heap.size ≤ k := by
  obtain ⟨v, hb, hr, hne, rfl⟩ := h
  have hc : w.cell? ⟨cb, 0, none⟩ = some v := by simp [World.cell?, hb]
  have hfz : w.frozen? ⟨cb, 0, none⟩ = false := by simp [World.frozen?, hb]
  have hlt : cb < w.heap.size := (Array.getElem?_eq_some_iff.1 hb).1
  obtain ⟨i0, hi, hz0, hz1, hz2⟩ := info_parts Try.infoFn
  have HB : Hid (w.heap[cb]? = some (.cells #[v] 56 (0, 0))) := hb
  have HN : Hid (v.ownBlock ≠ some cb) := hne
  have HL : Hid (fs.length < 1000000000000) := hl
  clear hb hne hl
  go_enter Try.func42, Try.ntmps42
  go_wp2_with (first | (at_builtin; go_must (refine wpList_append_row _ rfl _ _ 54 rfl 1 i0 .nilFunc 1 8 Try.underlying54 hi hz0 hz1 hz2 rfl v fs.length fs rfl (hr.kept (Keeps.alloc (fun _ => False) _ _) (fun _ _ h => h)) ⟨w.heap.size, 0, none⟩ 1 1 [.func fn #[] cap] rfl rfl (cell_one_new _ _ _) (by simp [Value.oneCell']) (by have := HL.out; unfold maxLen; omega) (by have := HL.out; omega) ?_; intro v' w1 hown' hgrow _ hat; obtain ⟨g', cap', rfl⟩ := hown'.succ; obtain ⟨hc1, hf1, hz1⟩ := undoBy_cell hlt HB HN hgrow)) | fail)
  go_end0
  have hk1 : Keeps (· ∈ cb :: v.ownBlock.toList) w w1 := (Keeps.alloc _ w _).trans (Keeps.grown hgrow) (fun k _ hk => by simp [hk.symm])
  have hb1 : w1.heap[cb]? = some (.cells #[v] 56 (0, 0)) := by
    rw [hgrow.block cb (by simp; omega) (fun e => HN.out e.symm), Below.heap_alloc _ _ _ hlt]
    exact HB.out
  have hne' : g' ≠ cb := by
    rintro rfl
    rcases hat with h | h
    · exact HN.out h.symm
    · simp [Value.ownBlock] at h; omega
  refine ⟨rfl, _, ⟨_, heap_setCell_same hb1 _, ?_, ?_, rfl⟩, hk1.trans (Keeps.setCell _ _ _) (fun k _ hk => by simp at hk; simp [hk]), ?_⟩
  · have := hown'.kept (Keeps.setCell w1 ⟨cb, 0, none⟩ (.slice (some ⟨g', 0, none⟩) (fs.length + 1) cap')) (fun g hg => by simp [Value.ownBlock] at hg; subst hg; exact hne')
    simpa using this
  · simpa [Value.ownBlock] using hne'
  · intro k hk
    simp [Value.ownBlock] at hk
    rcases hk with rfl | rfl
    · simp
    · rcases hat with h | h
      · left; rw [← h]; simp [Value.ownBlock]
      · right; simp [Value.ownBlock] at h; omega


theorem assign_cells {w w1 : World} {cb : Nat} {fs : List Value} {C : List Nat} {pb po : Nat} {u v x : Value} {t t' : TypeId} (h : Chg w cb fs C) (hk : Keeps (· ∈ C) ((w.alloc (.cells #[v] t)).alloc (.cells #[x] t')) w1)
    (hc : w.cell? ⟨pb, po, none⟩ = some u) (hf : w.frozen? ⟨pb, po, none⟩ = false) (hp : pb ∉ C) :
    w1.cell? ⟨pb, po, none⟩ = some u ∧ w1.frozen? ⟨pb, po, none⟩ = false ∧ w1.cell? ⟨w.heap.size, 0, none⟩ = some v := by
  have hlt : pb < w.heap.size := World.block_lt_of_cell? _ _ hc
  refine ⟨hk.cell (p := ⟨pb, po, none⟩) (by rw [World.cell?_alloc_past _ _ _ (by simp; omega), World.cell?_alloc_past _ _ _ hlt]; exact hc) hp, ?_, ?_⟩
  · rw [hk.frozen (p := ⟨pb, po, none⟩) (by simp; omega) hp, World.frozen?_alloc_past _ _ _ (by simp; omega), World.frozen?_alloc_past _ _ _ hlt]
    exact hf
  · refine hk.cell (p := ⟨w.heap.size, 0, none⟩) (by rw [World.cell?_alloc_past _ _ _ (by simp), World.cell?_alloc_at _ _ _ _ rfl]; rfl) (fun h' => ?_)
    have := h.lt _ h'
    simp at this

theorem assign_end {w w1 : World} {C : List Nat} {pb : Nat} {v x : Value} {t t' : TypeId} (hk : Keeps (· ∈ C) ((w.alloc (.cells #[v] t)).alloc (.cells #[x] t')) w1)
    (hlt : pb < w.heap.size) (hp : pb ∉ C) (u : Value) (po : Nat) :
    Keeps (fun k => k ∈ C ∨ k = pb) w (w1.setCell ⟨pb, po, none⟩ u) ∧ (w1.setCell ⟨pb, po, none⟩ u).heap[pb]? = (w.setCell ⟨pb, po, none⟩ u).heap[pb]? := by
  have h1 : Keeps (· ∈ C) w w1 := ((Keeps.alloc _ w _).trans (Keeps.alloc (fun _ => False) _ _) (fun _ _ h => h.elim)).trans hk (fun _ _ h => h)
  refine ⟨(h1.mono (fun _ _ h => .inl h)).trans (Keeps.setCell _ _ _) (fun k _ hk => .inr hk), ?_⟩
  simp only [World.setCell, Array.getElem?_modify, h1.block pb hlt hp]

set_option maxRecDepth 100000 in
set_option maxHeartbeats 400000 in
theorem assign_int (cb : Nat) (fs : List Value) (C : List Nat) (pb po : Nat) (old new : Int) (w : World) (h : Chg w cb fs C) (hc : w.cell? ⟨pb, po, none⟩ = some (.int .i64 old)) (hfz : w.frozen? ⟨pb, po, none⟩ = false) (hp : pb ∉ C) (hl : fs.length < 1000000000000) :
    Calls Try.prog 24 #[.pointer (some ⟨cb, 0, none⟩), .pointer (some ⟨pb, po, none⟩), .int .i64 new] w fun e w' => e = .returned (.tuple #[]) ∧
      ∃ fs' C', fs'.length = fs.length + 1 ∧ Chg w' cb fs' C' ∧ Keeps (fun k => k ∈ C ∨ k = pb) w w' ∧ (∀ k ∈ C', k ∈ C ∨ w.heap.size ≤ k) ∧ w'.heap[pb]? = (w.setCell ⟨pb, po, none⟩ (.int .i64 new)).heap[pb]? := by
  have hlt : pb < w.heap.size := World.block_lt_of_cell? _ _ hc
  have HL : Hid (fs.length < 1000000000000) := hl
  have HP : Hid (pb ∉ C) := hp
  clear hl hp
  have hmf : ∀ (fn : Fn) (first cap : Array Value) (w : World), (Instr.makeFunc fn first cap).run Try.prog w = .ok (.func fn first cap) w := fun _ _ _ _ => rfl
  go_enter Try.func24, Try.ntmps24
  go_wp2_with (go_at_call 42; go_must (refine (undoBy_any cb fs C _ _ _ (h.kept ((Keeps.alloc (fun _ => False) w _).trans (Keeps.alloc (fun _ => False) _ _) (fun _ _ h => h)) (fun _ _ h => h)) (by have := HL.out; omega)).mono ?_; rintro e w1 ⟨rfl, C1, hC1, hk1, hC1'⟩; obtain ⟨hcs, hfs, hbx⟩ := assign_cells h hk1 hc hfz HP.out))
  go_end0
  obtain ⟨hk2, hb2⟩ := assign_end hk1 hlt HP.out (.int .i64 new) po
  refine ⟨rfl, _, C1, ?_, hC1.kept (Keeps.setCell _ _ _) (fun k hk e => ?_), hk2, fun k hk => ?_, hb2⟩
  · simp
  · have e' : k = pb := e
    subst e'
    rcases hC1' k hk with h1 | h1
    · exact HP.out h1
    · simp at h1; omega
  · rcases hC1' k hk with h1 | h1
    · exact .inl h1
    · simp at h1; right; omega

set_option maxRecDepth 100000 in
set_option maxHeartbeats 400000 in
theorem assign_map (cb : Nat) (fs : List Value) (C : List Nat) (pb po : Nat) (old new : Option Nat) (w : World) (h : Chg w cb fs C) (hc : w.cell? ⟨pb, po, none⟩ = some (.map old)) (hfz : w.frozen? ⟨pb, po, none⟩ = false) (hp : pb ∉ C) (hl : fs.length < 1000000000000) :
    Calls Try.prog 23 #[.pointer (some ⟨cb, 0, none⟩), .pointer (some ⟨pb, po, none⟩), .map new] w fun e w' => e = .returned (.tuple #[]) ∧
      ∃ fs' C', fs'.length = fs.length + 1 ∧ Chg w' cb fs' C' ∧ Keeps (fun k => k ∈ C ∨ k = pb) w w' ∧ (∀ k ∈ C', k ∈ C ∨ w.heap.size ≤ k) ∧ w'.heap[pb]? = (w.setCell ⟨pb, po, none⟩ (.map new)).heap[pb]? := by
  have hlt : pb < w.heap.size := World.block_lt_of_cell? _ _ hc
  have HL : Hid (fs.length < 1000000000000) := hl
  have HP : Hid (pb ∉ C) := hp
  clear hl hp
  have hmf : ∀ (fn : Fn) (first cap : Array Value) (w : World), (Instr.makeFunc fn first cap).run Try.prog w = .ok (.func fn first cap) w := fun _ _ _ _ => rfl
  go_enter Try.func23, Try.ntmps23
  go_wp2_with (go_at_call 42; go_must (refine (undoBy_any cb fs C _ _ _ (h.kept ((Keeps.alloc (fun _ => False) w _).trans (Keeps.alloc (fun _ => False) _ _) (fun _ _ h => h)) (fun _ _ h => h)) (by have := HL.out; omega)).mono ?_; rintro e w1 ⟨rfl, C1, hC1, hk1, hC1'⟩; obtain ⟨hcs, hfs, hbx⟩ := assign_cells h hk1 hc hfz HP.out))
  go_end0
  obtain ⟨hk2, hb2⟩ := assign_end hk1 hlt HP.out (.map new) po
  refine ⟨rfl, _, C1, ?_, hC1.kept (Keeps.setCell _ _ _) (fun k hk e => ?_), hk2, fun k hk => ?_, hb2⟩
  · simp
  · have e' : k = pb := e
    subst e'
    rcases hC1' k hk with h1 | h1
    · exact HP.out h1
    · simp at h1; omega
  · rcases hC1' k hk with h1 | h1
    · exact .inl h1
    · simp at h1; right; omega

end Go.Proofs.Ytfcocbcihhdbkaa

/- putBack, enter, remove: a map is written or a key taken out of it, and the step that takes that back is noted. -/
namespace Go.Proofs.Ytfcocbcihhdbkaa
open Go.RowKit

theorem Try.zeroWork (w : World) : (zeroValue 73).run Try.prog w = .ok (.pointer none) w := by kernel_rfl
theorem Try.zeroVersion (w : World) : (zeroValue 79).run Try.prog w = .ok (.agg #[.int .i64 0, .string ByteArray.empty, .bool false]) w := by kernel_rfl

set_option maxRecDepth 100000 in
set_option maxHeartbeats 400000 in
theorem putBack_work (b : Nat) (k : Int) (l : List (Int × Value)) (q : Option Addr) (w : World) (h : MapAt (Value.int .i64) w b l) (hv : (look l k).getD (.pointer none) = .pointer q) :
    Calls Try.prog 46 #[.map (some b), .int .i64 k] w fun e w' => (∃ cap, e = .returned (.func (.func 66) #[] cap)) ∧ Keeps (fun _ => False) w w' := by
  have hmf : ∀ (fn : Fn) (first cap : Array Value) (w : World), (Instr.makeFunc fn first cap).run Try.prog w = .ok (.func fn first cap) w := fun _ _ _ _ => rfl
  have HV : Hid ((look l k).getD (.pointer none) = .pointer q) := hv
  clear hv
  go_enter Try.func46, Try.ntmps46
  go_wp2_with (at_lookup; go_must (refine wpList_lookup_ok_at _ rfl _ _ 59 rfl 3 73 intKeyOk Try.underlying59 Try.underlying3 _ (Try.zeroWork _) b rfl k rfl l ((h.kept (Keeps.alloc (fun _ => False) _ _) (fun h => h)).kept (Keeps.alloc (fun _ => False) _ _) (fun h => h)) ?_; rw [HV.out]))
  go_ret
  exact ⟨⟨_, rfl⟩, ((((Keeps.refl _ w).al _).al _).al _).al _⟩

set_option maxRecDepth 100000 in
set_option maxHeartbeats 400000 in
theorem putBack_version (b : Nat) (k : ByteArray) (l : List (ByteArray × Value)) (q1 : Int) (q2 : ByteArray) (q3 : Bool) (w : World) (h : MapAt Value.string w b l) (hv : (look l k).getD (.agg #[.int .i64 0, .string ByteArray.empty, .bool false]) = .agg #[.int .i64 q1, .string q2, .bool q3]) :
    Calls Try.prog 68 #[.map (some b), .string k] w fun e w' => (∃ cap, e = .returned (.func (.func 78) #[] cap)) ∧ Keeps (fun _ => False) w w' := by
  have hmf : ∀ (fn : Fn) (first cap : Array Value) (w : World), (Instr.makeFunc fn first cap).run Try.prog w = .ok (.func fn first cap) w := fun _ _ _ _ => rfl
  have HV : Hid ((look l k).getD (.agg #[.int .i64 0, .string ByteArray.empty, .bool false]) = .agg #[.int .i64 q1, .string q2, .bool q3]) := hv
  clear hv
  go_enter Try.func68, Try.ntmps68
  go_wp2_with (at_lookup; go_must (refine wpList_lookup_ok_at _ rfl _ _ 74 rfl 9 79 strKeyOk Try.underlying74 Try.underlying9 _ (Try.zeroVersion _) b rfl k rfl l ((h.kept (Keeps.alloc (fun _ => False) _ _) (fun h => h)).kept (Keeps.alloc (fun _ => False) _ _) (fun h => h)) ?_; rw [HV.out]))
  go_ret
  exact ⟨⟨_, rfl⟩, ((((Keeps.refl _ w).al _).al _).al _).al _⟩

theorem enter_box {w w1 w2 : World} {cb : Nat} {fs : List Value} {C : List Nat} {v1 v2 v3 : Value} {t : TypeId} (h : Chg w cb fs C) (hk1 : Keeps (fun _ => False) (w.alloc (.cells #[v1, v2, v3] t)) w1) (hk2 : Keeps (· ∈ C) w1 w2) :
    w2.cell? ⟨w.heap.size, 0, none⟩ = some v1 ∧ w2.cell? ⟨w.heap.size, 1, none⟩ = some v2 ∧ w2.cell? ⟨w.heap.size, 2, none⟩ = some v3 := by
  have hn : w.heap.size ∉ C := fun h' => by have := h.lt _ h'; simp at this
  have hc : ∀ j, j < 3 → (w.alloc (.cells #[v1, v2, v3] t)).cell? ⟨w.heap.size, j, none⟩ = #[v1, v2, v3][j]? := fun j _ => World.cell?_alloc_at _ _ _ _ rfl
  exact ⟨hk2.cell (p := ⟨w.heap.size, 0, none⟩) (hk1.cell (p := ⟨w.heap.size, 0, none⟩) (hc 0 (by omega)) (fun h => h)) hn, hk2.cell (p := ⟨w.heap.size, 1, none⟩) (hk1.cell (p := ⟨w.heap.size, 1, none⟩) (hc 1 (by omega)) (fun h => h)) hn,
    hk2.cell (p := ⟨w.heap.size, 2, none⟩) (hk1.cell (p := ⟨w.heap.size, 2, none⟩) (hc 2 (by omega)) (fun h => h)) hn⟩

set_option maxRecDepth 100000 in
set_option maxHeartbeats 400000 in
/-- 'm[key] = value' in the map of the open works, noted -/
theorem enter_work (cb : Nat) (fs : List Value) (C : List Nat) (b : Nat) (k : Int) (l : List (Int × Value)) (q v : Option Addr) (w : World) (hC : Chg w cb fs C) (h : MapAt (Value.int .i64) w b l) (hv : (look l k).getD (.pointer none) = .pointer q) (hb : b ∉ C) (hl : fs.length < 1000000000000) :
    Calls Try.prog 25 #[.pointer (some ⟨cb, 0, none⟩), .map (some b), .int .i64 k, .pointer v] w fun e w' => e = .returned (.tuple #[]) ∧
      ∃ fs' C', fs'.length = fs.length + 1 ∧ Chg w' cb fs' C' ∧ Keeps (fun k => k ∈ C ∨ k = b) w w' ∧ (∀ k ∈ C', k ∈ C ∨ w.heap.size ≤ k) ∧ MapAt (Value.int .i64) w' b (put l k (.pointer v)) := by
  have hlt := h.lt
  have HL : Hid (fs.length < 1000000000000) := hl
  have HP : Hid (b ∉ C) := hb
  have HV : Hid ((look l k).getD (.pointer none) = .pointer q) := hv
  clear hl hb hv
  go_enter Try.func25, Try.ntmps25
  go_wp2_with (first
    | (go_at_call 46; go_must (refine (putBack_work b k l q _ h HV.out).mono ?_; rintro e w1 ⟨⟨cap, rfl⟩, hk1⟩))
    | (go_at_call 42; go_must (refine (undoBy_any cb fs C _ _ _ (hC.kept hk1 (fun _ _ h => h)) (by have := HL.out; omega)).mono ?_; rintro e w2 ⟨rfl, C1, hC1, hk2, hC1'⟩))
    | (at_mapUpdate; go_must (refine wpList_mapUpdate_at _ rfl _ _ _ 59 rfl 3 73 intKeyOk Try.underlying59 Try.underlying3 b rfl k rfl _ rfl l ((h.kept hk1 (fun h => h)).kept hk2 HP.out) ?_; intro w3 hm3 hk3 hz3)))
  go_end0
  have hkk : Keeps (fun k => k ∈ C ∨ k = b) w w3 := ((hk1.mono (T := fun k => k ∈ C ∨ k = b) (fun _ _ h => h.elim)).tr hk2 (fun _ h => .inl h)).tr hk3 (fun _ h => .inr h)
  refine ⟨rfl, _, ?_, C1, hC1.kept hk3 (fun k hk e => ?_), hkk, fun k hk => ?_, hm3⟩
  · simp
  · have e' : k = b := e
    subst e'
    rcases hC1' k hk with h1 | h1
    · exact HP.out h1
    · have := hk1.size; omega
  · rcases hC1' k hk with h1 | h1
    · exact .inl h1
    · have := hk1.size; right; omega

set_option maxRecDepth 100000 in
set_option maxHeartbeats 400000 in
/-- 'm[key] = value' in the map of what a work has written, noted -/
theorem enter_version (cb : Nat) (fs : List Value) (C : List Nat) (b : Nat) (k : ByteArray) (l : List (ByteArray × Value)) (q1 v1 : Int) (q2 v2 : ByteArray) (q3 v3 : Bool) (w : World) (hC : Chg w cb fs C) (h : MapAt Value.string w b l) (hv : (look l k).getD (.agg #[.int .i64 0, .string ByteArray.empty, .bool false]) = .agg #[.int .i64 q1, .string q2, .bool q3]) (hb : b ∉ C) (hl : fs.length < 1000000000000) :
    Calls Try.prog 50 #[.pointer (some ⟨cb, 0, none⟩), .map (some b), .string k, .agg #[.int .i64 v1, .string v2, .bool v3]] w fun e w' => e = .returned (.tuple #[]) ∧
      ∃ fs' C', fs'.length = fs.length + 1 ∧ Chg w' cb fs' C' ∧ Keeps (fun k => k ∈ C ∨ k = b) w w' ∧ (∀ k ∈ C', k ∈ C ∨ w.heap.size ≤ k) ∧ MapAt Value.string w' b (put l k (.agg #[.int .i64 v1, .string v2, .bool v3])) := by
  have hlt := h.lt
  have HL : Hid (fs.length < 1000000000000) := hl
  have HP : Hid (b ∉ C) := hb
  have HV : Hid ((look l k).getD (.agg #[.int .i64 0, .string ByteArray.empty, .bool false]) = .agg #[.int .i64 q1, .string q2, .bool q3]) := hv
  clear hl hb hv
  go_enter Try.func50, Try.ntmps50
  go_wp2_with (first
    | (go_at_call 68; go_must (refine (putBack_version b k l q1 q2 q3 _ (h.kept (Keeps.alloc (fun _ => False) _ _) (fun h => h)) HV.out).mono ?_; rintro e w1 ⟨⟨cap, rfl⟩, hk1⟩))
    | (go_at_call 42; go_must (refine (undoBy_any cb fs C _ _ _ (hC.kept ((Keeps.alloc (fun _ => False) _ _).tr hk1 (fun _ h => h)) (fun _ _ h => h)) (by have := HL.out; omega)).mono ?_; rintro e w2 ⟨rfl, C1, hC1, hk2, hC1'⟩; obtain ⟨hx0, hx1, hx2⟩ := enter_box hC hk1 hk2))
    | (at_mapUpdate; go_must (refine wpList_mapUpdate_at _ rfl _ _ _ 74 rfl 9 79 strKeyOk Try.underlying74 Try.underlying9 b rfl k rfl _ rfl l ((h.kept ((Keeps.alloc (fun _ => False) _ _).tr hk1 (fun _ h => h)) (fun h => h)).kept hk2 HP.out) ?_; intro w3 hm3 hk3 hz3)))
  go_end0
  have hkk : Keeps (fun k => k ∈ C ∨ k = b) w w3 := ((((Keeps.alloc (fun _ => False) _ _).tr hk1 (fun _ h => h)).mono (T := fun k => k ∈ C ∨ k = b) (fun _ _ h => h.elim)).tr hk2 (fun _ h => .inl h)).tr hk3 (fun _ h => .inr h)
  refine ⟨rfl, _, ?_, C1, hC1.kept hk3 (fun k hk e => ?_), hkk, fun k hk => ?_, hm3⟩
  · simp
  · have e' : k = b := e
    subst e'
    rcases hC1' k hk with h1 | h1
    · exact HP.out h1
    · have := hk1.size; simp at this; omega
  · rcases hC1' k hk with h1 | h1
    · exact .inl h1
    · have := hk1.size; simp at this; right; omega

set_option maxRecDepth 100000 in
set_option maxHeartbeats 400000 in
/-- 'delete(m, key)' in the map of the open works, noted -/
theorem remove_work (cb : Nat) (fs : List Value) (C : List Nat) (b : Nat) (k : Int) (l : List (Int × Value)) (q : Option Addr) (w : World) (hC : Chg w cb fs C) (h : MapAt (Value.int .i64) w b l) (hv : (look l k).getD (.pointer none) = .pointer q) (hb : b ∉ C) (hl : fs.length < 1000000000000) :
    Calls Try.prog 31 #[.pointer (some ⟨cb, 0, none⟩), .map (some b), .int .i64 k] w fun e w' => e = .returned (.tuple #[]) ∧
      ∃ fs' C', fs'.length = fs.length + 1 ∧ Chg w' cb fs' C' ∧ Keeps (fun k => k ∈ C ∨ k = b) w w' ∧ (∀ k ∈ C', k ∈ C ∨ w.heap.size ≤ k) ∧ MapAt (Value.int .i64) w' b (del l k) := by
  have hlt := h.lt
  have HL : Hid (fs.length < 1000000000000) := hl
  have HP : Hid (b ∉ C) := hb
  have HV : Hid ((look l k).getD (.pointer none) = .pointer q) := hv
  clear hl hb hv
  go_enter Try.func31, Try.ntmps31
  go_wp2_with (first
    | (go_at_call 46; go_must (refine (putBack_work b k l q _ h HV.out).mono ?_; rintro e w1 ⟨⟨cap, rfl⟩, hk1⟩))
    | (go_at_call 42; go_must (refine (undoBy_any cb fs C _ _ _ (hC.kept hk1 (fun _ _ h => h)) (by have := HL.out; omega)).mono ?_; rintro e w2 ⟨rfl, C1, hC1, hk2, hC1'⟩))
    | (at_delete; go_must (refine wpList_delete_at _ rfl _ _ 59 3 rfl 73 intKeyOk Try.underlying59 Try.underlying3 b rfl k rfl l ((h.kept hk1 (fun h => h)).kept hk2 HP.out) ?_; intro w3 hm3 hk3 hz3)))
  go_end0
  have hkk : Keeps (fun k => k ∈ C ∨ k = b) w w3 := ((hk1.mono (T := fun k => k ∈ C ∨ k = b) (fun _ _ h => h.elim)).tr hk2 (fun _ h => .inl h)).tr hk3 (fun _ h => .inr h)
  refine ⟨rfl, _, ?_, C1, hC1.kept hk3 (fun k hk e => ?_), hkk, fun k hk => ?_, hm3⟩
  · simp
  · have e' : k = b := e
    subst e'
    rcases hC1' k hk with h1 | h1
    · exact HP.out h1
    · have := hk1.size; omega
  · rcases hC1' k hk with h1 | h1
    · exact .inl h1
    · have := hk1.size; right; omega

end Go.Proofs.Ytfcocbcihhdbkaa

/- settle: what the deferred function of a call hands over to. -/
namespace Go.Proofs.Ytfcocbcihhdbkaa
open Go.RowKit Go.Shelf

attribute [local go_sem] Oper.semAt_some

set_option maxRecDepth 100000 in
set_option maxHeartbeats 400000 in
/-- The call answers no error: nothing is taken back. -/
theorem settle_ok (cb eb : Nat) (w : World) (he : w.cell? ⟨eb, 0, none⟩ = some (.int .i64 0)) :
    Calls Try.prog 22 #[.pointer (some ⟨cb, 0, none⟩), .nilIface, .pointer (some ⟨eb, 0, none⟩)] w fun e w' => e = .returned (.tuple #[]) ∧ w' = w := by
  go_enter Try.func22, Try.ntmps22
  go_wp2
  refine bodyPost_ret (results_none rfl _ _ _) rfl ?_
  exact ⟨rfl, rfl⟩

set_option maxRecDepth 100000 in
set_option maxHeartbeats 400000 in
/-- slices.Backward of no step: no round. -/
theorem backward1_nil (F : Fence) (n : Nat) (h1 : F.fn 65) (hro : F.round = none) (l B : Nat) (J : List Empty → World → Prop) (W : World) (hB : W.cell? ⟨B, 0, none⟩ = some (.slice none 0 0)) (h0 : J [] W) :
    CallsIn F n Try.prog 65 #[.func (.yield l) #[] #[], .pointer (some ⟨B, 0, none⟩)] W fun e W' => (∃ v, e = .returned v) ∧ J [] W' := by
  refine callsIn_of_wp Try.func65 rfl h1 ?_ hro
  simp only [Try.ntmps65, List.size_toArray, List.length_cons, List.length_nil, Nat.reduceAdd, Nat.reduceSub, Array.replicate_succ, Array.replicate_zero, List.push_toArray, List.append_toArray, List.nil_append, List.cons_append]
  gi_wp2
  gi_loopw [3] (fun i wr => i = .int .i64 (-1) ∧ J [] wr) (fun _ _ => 0)
  case atStart => exact ⟨rfl, h0⟩
  case round =>
    obtain ⟨rfl, hJs⟩ := hrel
    gi_wp2
    go_end0
    exact ⟨⟨_, rfl⟩, hJs⟩

theorem backward_nil_stops (F : Fence) (n : Nat) (h1 : F.fn 65) (hro : F.round = none) (B : Nat) (w : World) (hB : B < w.heap.size) (hc : w.cell? ⟨B, 0, none⟩ = some (.slice none 0 0)) :
    SeqStopsK F n Try.prog 65 #[.pointer (some ⟨B, 0, none⟩)] (fun _ : Empty => #[Value.nilFunc, Value.nilFunc]) (fun _ _ => True) (fun ys => ys = []) (fun _ => False) 0 w := fun l J Jx W hW _ _ _ h0 => by
  have hc' := (hW.cell (p := ⟨B, 0, none⟩) hB).trans hc
  exact (backward1_nil F n h1 hro l B J W hc' h0).mono fun e W' ⟨he, hj⟩ => ⟨he, .inl ⟨_, rfl, hj⟩⟩

set_option maxRecDepth 100000 in
set_option maxHeartbeats 400000 in
/-- slices.Backward(s): the slice is boxed; the function value captures the box. -/
theorem backward_any (a : Option Addr) (len cap : Nat) (w : World) :
    Calls Try.prog 43 #[.slice a len cap] w fun e w' => e = .returned (.func (.func 65) #[] #[.pointer (some ⟨w.heap.size, 0, none⟩)]) ∧ w' = w.alloc (.cells #[.slice a len cap] 54) := by
  have hmf : ∀ (fn : Fn) (first cap : Array Value) (w : World), (Instr.makeFunc fn first cap).run Try.prog w = .ok (.func fn first cap) w := fun _ _ _ _ => rfl
  go_enter Try.func43, Try.ntmps43
  go_wp2
  go_ret
  exact ⟨rfl, rfl⟩

set_option maxRecDepth 100000 in
set_option maxHeartbeats 400000 in
/-- It answers an error, and nothing was done. -/
theorem settle_none (cb eb : Nat) (n : Int) (hn : 1 ≤ n ∧ n ≤ 9) (w : World) (hc : w.cell? ⟨cb, 0, none⟩ = some (.slice none 0 0)) (he : w.cell? ⟨eb, 0, none⟩ = some (.int .i64 n)) :
    Calls Try.prog 22 #[.pointer (some ⟨cb, 0, none⟩), .nilIface, .pointer (some ⟨eb, 0, none⟩)] w fun e w' => e = .returned (.tuple #[]) ∧ Keeps (fun _ => False) w w' := by
  obtain ⟨h1, h2⟩ := hn
  have hnb : (n == 0) = false := by simp; omega
  have hmf : ∀ (fn : Fn) (first cap : Array Value) (w : World), (Instr.makeFunc fn first cap).run Try.prog w = .ok (.func fn first cap) w := fun _ _ _ _ => rfl
  refine (callsIn_wide (n := 8)).1 ?_
  refine callsIn_of_wp_marks Try.func22 rfl trivial ?_ rfl
  simp only [Try.ntmps22, List.size_toArray, List.length_cons, List.length_nil, Nat.reduceAdd, Nat.reduceSub, Array.replicate_succ, Array.replicate_zero, List.push_toArray, List.append_toArray, List.nil_append, List.cons_append]
  gi_wp2_with (refine ⟨trivial, ?_⟩; gi_at_call 43; go_must (refine (callsIn_wide.2 (backward_any _ _ _ _)).mono ?_; rintro e w1 ⟨rfl, rfl⟩))
  refine wpIn_rangeFunc_ownG (α := Empty) rfl (by omega) (gf := 65) (lb := #[.pointer (some ⟨w.heap.size, 0, none⟩)]) rfl trivial (enters_of Try.func65 (by kernel_rfl) rfl)
    (backward_nil_stops Fence.wide 7 trivial rfl w.heap.size (w.alloc (.cells #[.slice none 0 0] 54)) (by simp) (by simp)) (fun _ _ => trivial) (fun _ _ _ _ _ _ _ _ => trivial) (Below.refl _ _) (fun x => x.elim)
    (fun _ W => Below w.heap.size w W) (fun _ _ _ => False) ?own ?ownx ?start (fun x => x.elim) (fun _ x => x.elim) (fun _ _ x => x.elim) ?done (fun _ _ _ _ _ h => h.elim)
  case own => exact ownFrom_below (Nat.le_refl _) (by simp)
  case ownx => exact fun _ _ _ _ _ h _ _ => h
  case start => exact (Below.refl _ _).alloc (Nat.le_refl _) _
  case done =>
    rintro D ys W hD - hB hK
    gi_wp2
    refine ⟨by simp, .inl ⟨_, _, rfl, run_takeDeferred hK, ?_⟩⟩
    refine ⟨_, results_none rfl _ _ _, rfl, ?_⟩
    exact Keeps.below (hB.trans (belowK_b (w := w) (Nat.le_refl _) W D _ _ (by simp at hD; omega) hK rfl rfl))

end Go.Proofs.Ytfcocbcihhdbkaa

/- The deferred functions of the calls. -/
namespace Go.Proofs.Ytfcocbcihhdbkaa
open Go.RowKit

set_option maxRecDepth 100000 in
set_option maxHeartbeats 400000 in
theorem begin1_ok (cb eb : Nat) (w : World) (he : w.cell? ⟨eb, 0, none⟩ = some (.int .i64 0)) :
    CallsD Try.prog 21 #[.pointer (some ⟨cb, 0, none⟩), .pointer (some ⟨eb, 0, none⟩)] .returning w fun e u' w' => e = .returned (.tuple #[]) ∧ u' = .returning ∧ w' = w := by
  refine callsD_of_wpS Try.func21 rfl fun c₀ cs hu => ?_
  apply wpS_region
  simp [wpOpsS, go_sem, recoverD, hu, Try.ntmps21]
  refine (settle_ok cb eb w he).mono ?_
  rintro e w1 ⟨rfl, rfl⟩
  cases c₀
  simp_all [bodyPostS, results, Try.results21]

set_option maxRecDepth 100000 in
set_option maxHeartbeats 400000 in
theorem begin1_none (cb eb : Nat) (n : Int) (hn : 1 ≤ n ∧ n ≤ 9) (w : World) (hc : w.cell? ⟨cb, 0, none⟩ = some (.slice none 0 0)) (he : w.cell? ⟨eb, 0, none⟩ = some (.int .i64 n)) :
    CallsD Try.prog 21 #[.pointer (some ⟨cb, 0, none⟩), .pointer (some ⟨eb, 0, none⟩)] .returning w fun e u' w' => e = .returned (.tuple #[]) ∧ u' = .returning ∧ Keeps (fun _ => False) w w' := by
  refine callsD_of_wpS Try.func21 rfl fun c₀ cs hu => ?_
  apply wpS_region
  simp [wpOpsS, go_sem, recoverD, hu, Try.ntmps21]
  refine (settle_none cb eb n hn w hc he).mono ?_
  rintro e w1 ⟨rfl, hk⟩
  cases c₀
  simp_all [bodyPostS, results, Try.results21]

set_option maxRecDepth 100000 in
set_option maxHeartbeats 400000 in
theorem write1_ok (cb eb : Nat) (w : World) (he : w.cell? ⟨eb, 0, none⟩ = some (.int .i64 0)) :
    CallsD Try.prog 47 #[.pointer (some ⟨cb, 0, none⟩), .pointer (some ⟨eb, 0, none⟩)] .returning w fun e u' w' => e = .returned (.tuple #[]) ∧ u' = .returning ∧ w' = w := by
  refine callsD_of_wpS Try.func47 rfl fun c₀ cs hu => ?_
  apply wpS_region
  simp [wpOpsS, go_sem, recoverD, hu, Try.ntmps47]
  refine (settle_ok cb eb w he).mono ?_
  rintro e w1 ⟨rfl, rfl⟩
  cases c₀
  simp_all [bodyPostS, results, Try.results47]

set_option maxRecDepth 100000 in
set_option maxHeartbeats 400000 in
theorem write1_none (cb eb : Nat) (n : Int) (hn : 1 ≤ n ∧ n ≤ 9) (w : World) (hc : w.cell? ⟨cb, 0, none⟩ = some (.slice none 0 0)) (he : w.cell? ⟨eb, 0, none⟩ = some (.int .i64 n)) :
    CallsD Try.prog 47 #[.pointer (some ⟨cb, 0, none⟩), .pointer (some ⟨eb, 0, none⟩)] .returning w fun e u' w' => e = .returned (.tuple #[]) ∧ u' = .returning ∧ Keeps (fun _ => False) w w' := by
  refine callsD_of_wpS Try.func47 rfl fun c₀ cs hu => ?_
  apply wpS_region
  simp [wpOpsS, go_sem, recoverD, hu, Try.ntmps47]
  refine (settle_none cb eb n hn w hc he).mono ?_
  rintro e w1 ⟨rfl, hk⟩
  cases c₀
  simp_all [bodyPostS, results, Try.results47]

set_option maxRecDepth 100000 in
set_option maxHeartbeats 400000 in
theorem commit1_ok (cb eb : Nat) (w : World) (he : w.cell? ⟨eb, 0, none⟩ = some (.int .i64 0)) :
    CallsD Try.prog 29 #[.pointer (some ⟨cb, 0, none⟩), .pointer (some ⟨eb, 0, none⟩)] .returning w fun e u' w' => e = .returned (.tuple #[]) ∧ u' = .returning ∧ w' = w := by
  refine callsD_of_wpS Try.func29 rfl fun c₀ cs hu => ?_
  apply wpS_region
  simp [wpOpsS, go_sem, recoverD, hu, Try.ntmps29]
  refine (settle_ok cb eb w he).mono ?_
  rintro e w1 ⟨rfl, rfl⟩
  cases c₀
  simp_all [bodyPostS, results, Try.results29]

set_option maxRecDepth 100000 in
set_option maxHeartbeats 400000 in
theorem commit1_none (cb eb : Nat) (n : Int) (hn : 1 ≤ n ∧ n ≤ 9) (w : World) (hc : w.cell? ⟨cb, 0, none⟩ = some (.slice none 0 0)) (he : w.cell? ⟨eb, 0, none⟩ = some (.int .i64 n)) :
    CallsD Try.prog 29 #[.pointer (some ⟨cb, 0, none⟩), .pointer (some ⟨eb, 0, none⟩)] .returning w fun e u' w' => e = .returned (.tuple #[]) ∧ u' = .returning ∧ Keeps (fun _ => False) w w' := by
  refine callsD_of_wpS Try.func29 rfl fun c₀ cs hu => ?_
  apply wpS_region
  simp [wpOpsS, go_sem, recoverD, hu, Try.ntmps29]
  refine (settle_none cb eb n hn w hc he).mono ?_
  rintro e w1 ⟨rfl, hk⟩
  cases c₀
  simp_all [bodyPostS, results, Try.results29]

set_option maxRecDepth 100000 in
set_option maxHeartbeats 400000 in
theorem abort1_ok (cb eb : Nat) (w : World) (he : w.cell? ⟨eb, 0, none⟩ = some (.int .i64 0)) :
    CallsD Try.prog 35 #[.pointer (some ⟨cb, 0, none⟩), .pointer (some ⟨eb, 0, none⟩)] .returning w fun e u' w' => e = .returned (.tuple #[]) ∧ u' = .returning ∧ w' = w := by
  refine callsD_of_wpS Try.func35 rfl fun c₀ cs hu => ?_
  apply wpS_region
  simp [wpOpsS, go_sem, recoverD, hu, Try.ntmps35]
  refine (settle_ok cb eb w he).mono ?_
  rintro e w1 ⟨rfl, rfl⟩
  cases c₀
  simp_all [bodyPostS, results, Try.results35]

set_option maxRecDepth 100000 in
set_option maxHeartbeats 400000 in
theorem abort1_none (cb eb : Nat) (n : Int) (hn : 1 ≤ n ∧ n ≤ 9) (w : World) (hc : w.cell? ⟨cb, 0, none⟩ = some (.slice none 0 0)) (he : w.cell? ⟨eb, 0, none⟩ = some (.int .i64 n)) :
    CallsD Try.prog 35 #[.pointer (some ⟨cb, 0, none⟩), .pointer (some ⟨eb, 0, none⟩)] .returning w fun e u' w' => e = .returned (.tuple #[]) ∧ u' = .returning ∧ Keeps (fun _ => False) w w' := by
  refine callsD_of_wpS Try.func35 rfl fun c₀ cs hu => ?_
  apply wpS_region
  simp [wpOpsS, go_sem, recoverD, hu, Try.ntmps35]
  refine (settle_none cb eb n hn w hc he).mono ?_
  rintro e w1 ⟨rfl, hk⟩
  cases c₀
  simp_all [bodyPostS, results, Try.results35]

set_option maxRecDepth 100000 in
set_option maxHeartbeats 400000 in
theorem sweep1_ok (cb eb : Nat) (w : World) (he : w.cell? ⟨eb, 0, none⟩ = some (.int .i64 0)) :
    CallsD Try.prog 39 #[.pointer (some ⟨cb, 0, none⟩), .pointer (some ⟨eb, 0, none⟩)] .returning w fun e u' w' => e = .returned (.tuple #[]) ∧ u' = .returning ∧ w' = w := by
  refine callsD_of_wpS Try.func39 rfl fun c₀ cs hu => ?_
  apply wpS_region
  simp [wpOpsS, go_sem, recoverD, hu, Try.ntmps39]
  refine (settle_ok cb eb w he).mono ?_
  rintro e w1 ⟨rfl, rfl⟩
  cases c₀
  simp_all [bodyPostS, results, Try.results39]

set_option maxRecDepth 100000 in
set_option maxHeartbeats 400000 in
theorem sweep1_none (cb eb : Nat) (n : Int) (hn : 1 ≤ n ∧ n ≤ 9) (w : World) (hc : w.cell? ⟨cb, 0, none⟩ = some (.slice none 0 0)) (he : w.cell? ⟨eb, 0, none⟩ = some (.int .i64 n)) :
    CallsD Try.prog 39 #[.pointer (some ⟨cb, 0, none⟩), .pointer (some ⟨eb, 0, none⟩)] .returning w fun e u' w' => e = .returned (.tuple #[]) ∧ u' = .returning ∧ Keeps (fun _ => False) w w' := by
  refine callsD_of_wpS Try.func39 rfl fun c₀ cs hu => ?_
  apply wpS_region
  simp [wpOpsS, go_sem, recoverD, hu, Try.ntmps39]
  refine (settle_none cb eb n hn w hc he).mono ?_
  rintro e w1 ⟨rfl, hk⟩
  cases c₀
  simp_all [bodyPostS, results, Try.results39]

end Go.Proofs.Ytfcocbcihhdbkaa

/- How a store lies in memory. -/
namespace Go.Proofs.Ytfcocbcihhdbkaa
open Go.RowKit

/-- a version -/
structure Ver where
  state : Int
  value : ByteArray
  gone : Bool

def Ver.val (v : Ver) : Value := .agg #[.int .i64 v.state, .string v.value, .bool v.gone]
def Ver.cells (v : Ver) : List Value := [.int .i64 v.state, .string v.value, .bool v.gone]

/-- an open work, with its places -/
structure WkR where
  blk : Nat
  mb : Nat
  began : Int
  writes : List (ByteArray × Ver)

/-- a key's versions, with their place -/
structure HsR where
  sl : Value
  vers : List Ver

/-- an open copying -/
structure Cop where
  full : Bool
  from' : Int
  to : Int
  headed : Bool
  next : ByteArray
  sum : Int
  count : Int

def Cop.val (x : Cop) : Value := .agg #[.bool x.full, .int .i64 x.from', .int .i64 x.to, .bool x.headed, .string x.next, .int .u32 x.sum, .int .i64 x.count]

/-- a store, with its places -/
structure Rep where
  sb : Nat
  now : Int
  floor : Int
  begun : Int
  wm : Option Nat
  works : List (Int × WkR)
  pm : Option Nat
  pins : List (Int × Int)
  started : Int
  cm : Option Nat
  copyings : List (Int × Cop)
  kv : Value
  keys : List ByteArray
  vm : Option Nat
  hist : List (ByteArray × HsR)

/-- the blocks of what has been -/
def Rep.fpPast (R : Rep) : List Nat := R.kv.ownBlock.toList ++ R.vm.toList ++ R.hist.flatMap (fun p => p.2.sl.ownBlock.toList)
/-- the blocks of the pins and copyings -/
def pcOf (pm cm : Option Nat) : List Nat := pm.toList ++ cm.toList
/-- the blocks of the works, pins and copyings -/
def Rep.fpWorks (R : Rep) : List Nat := R.wm.toList ++ pcOf R.pm R.cm ++ R.works.flatMap (fun p => [p.2.blk, p.2.mb])
/-- the store's blocks -/
def Rep.fp (R : Rep) : List Nat := R.sb :: (R.fpWorks ++ R.fpPast)

def workPtr (x : WkR) : Value := .pointer (some ⟨x.blk, 0, none⟩)

/-- What has been lies so. -/
structure PastAt (w : World) (kv : Value) (keys : List ByteArray) (vm : Option Nat) (hist : List (ByteArray × HsR)) : Prop where
  keysRow : Row w 9 1 kv keys.length (keys.map Value.string)
  histMap : OptMap Value.string w vm (hist.map fun p => (p.1, p.2.sl))
  histEach : ∀ p ∈ hist, Row w 79 3 p.2.sl p.2.vers.length (p.2.vers.flatMap Ver.cells)

/-- The works and pins lie so. -/
structure WorksAt (w : World) (R : Rep) : Prop where
  worksMap : OptMap (Value.int .i64) w R.wm (R.works.map fun p => (p.1, workPtr p.2))
  worksEach : ∀ p ∈ R.works, w.heap[p.2.blk]? = some (.cells #[.int .i64 p.2.began, .map (some p.2.mb)] 76 (0, 0)) ∧ MapAt Value.string w p.2.mb (p.2.writes.map fun q => (q.1, q.2.val))
  pinsMap : OptMap (Value.int .i64) w R.pm (R.pins.map fun p => (p.1, .int .i64 p.2))
  copyMap : OptMap (Value.int .i64) w R.cm (R.copyings.map fun p => (p.1, p.2.val))

def topCells (R : Rep) : Array Value := #[.int .i64 R.now, .int .i64 R.floor, .int .i64 R.begun, .map R.wm, .map R.pm, .int .i64 R.started, .map R.cm, R.kv, .map R.vm]

/-- The store lies so. -/
structure StoreAt (w : World) (R : Rep) : Prop where
  top : w.heap[R.sb]? = some (.cells (topCells R) 66 (0, 0))
  works : WorksAt w R
  past : PastAt w R.kv R.keys R.vm R.hist
  nodup : R.fp.Nodup

theorem PastAt.kept {w w' : World} {kv : Value} {keys : List ByteArray} {vm : Option Nat} {hist : List (ByteArray × HsR)} {S : Nat → Prop} (h : PastAt w kv keys vm hist) (hk : Keeps S w w')
    (hS : ∀ k, k ∈ kv.ownBlock.toList ++ vm.toList ++ hist.flatMap (fun p => p.2.sl.ownBlock.toList) → ¬ S k) : PastAt w' kv keys vm hist := by
  refine ⟨h.keysRow.kept hk (fun g hg => hS g (by simp [hg])), h.histMap.kept hk (fun b hb => hS b (by simp [hb])), fun p hp => (h.histEach p hp).kept hk (fun g hg => hS g ?_)⟩
  simp only [List.mem_append, List.mem_flatMap]
  exact .inr ⟨p, hp, by simp [hg]⟩

theorem WorksAt.kept {w w' : World} {R : Rep} {S : Nat → Prop} (h : WorksAt w R) (hk : Keeps S w w') (hS : ∀ k, k ∈ R.fpWorks → ¬ S k) : WorksAt w' R := by
  refine ⟨h.worksMap.kept hk (fun b hb => hS b (by simp [Rep.fpWorks, hb])), fun p hp => ?_, h.pinsMap.kept hk (fun b hb => hS b (by simp [Rep.fpWorks, pcOf, hb])), h.copyMap.kept hk (fun b hb => hS b (by simp [Rep.fpWorks, pcOf, hb]))⟩
  obtain ⟨h1, h2⟩ := h.worksEach p hp
  have hm : ∀ k, k = p.2.blk ∨ k = p.2.mb → ¬ S k := fun k hk' => hS k (by
    simp only [Rep.fpWorks, List.mem_append, List.mem_flatMap]
    exact .inr ⟨p, hp, by simpa using hk'⟩)
  exact ⟨(hk.block _ (Array.getElem?_eq_some_iff.1 h1).1 (hm _ (.inl rfl))).trans h1, h2.kept hk (hm _ (.inr rfl))⟩

theorem StoreAt.kept {w w' : World} {R : Rep} {S : Nat → Prop} (h : StoreAt w R) (hk : Keeps S w w') (hS : ∀ k, k ∈ R.fp → ¬ S k) : StoreAt w' R :=
  ⟨(hk.block _ (Array.getElem?_eq_some_iff.1 h.top).1 (hS _ (by simp [Rep.fp]))).trans h.top, h.works.kept hk (fun k hk' => hS k (by simp [Rep.fp, hk'])),
    h.past.kept hk (fun k hk' => hS k (List.mem_cons_of_mem _ (List.mem_append_right _ hk'))), h.nodup⟩

theorem StoreAt.cell {w : World} {R : Rep} (h : StoreAt w R) (j : Nat) : w.cell? ⟨R.sb, j, none⟩ = (topCells R)[j]? := by simp [World.cell?, h.top]
theorem StoreAt.frozen {w : World} {R : Rep} (h : StoreAt w R) (j : Nat) : w.frozen? ⟨R.sb, j, none⟩ = false := by simp [World.frozen?, h.top]
theorem StoreAt.lt {w : World} {R : Rep} (h : StoreAt w R) : R.sb < w.heap.size := (Array.getElem?_eq_some_iff.1 h.top).1

/-- All nine cells, for a walk. -/
theorem StoreAt.seven {w : World} {R : Rep} (h : StoreAt w R) : w.cell? ⟨R.sb, 0, none⟩ = some (.int .i64 R.now) ∧ w.cell? ⟨R.sb, 1, none⟩ = some (.int .i64 R.floor) ∧ w.cell? ⟨R.sb, 2, none⟩ = some (.int .i64 R.begun) ∧
    w.cell? ⟨R.sb, 3, none⟩ = some (.map R.wm) ∧ w.cell? ⟨R.sb, 4, none⟩ = some (.map R.pm) ∧ w.cell? ⟨R.sb, 5, none⟩ = some (.int .i64 R.started) ∧ w.cell? ⟨R.sb, 6, none⟩ = some (.map R.cm) ∧ w.cell? ⟨R.sb, 7, none⟩ = some R.kv ∧ w.cell? ⟨R.sb, 8, none⟩ = some (.map R.vm) :=
  ⟨h.cell 0, h.cell 1, h.cell 2, h.cell 3, h.cell 4, h.cell 5, h.cell 6, h.cell 7, h.cell 8⟩

set_option maxRecDepth 100000 in
set_option maxHeartbeats 400000 in
/-- find: the open work of a number -/
theorem find_any (R : Rep) (n : Int) (w : World) (h : StoreAt w R) :
    Calls Try.prog 30 #[.pointer (some ⟨R.sb, 0, none⟩), .int .i64 n] w fun e w' => e = .returned (((look R.works n).map workPtr).getD (.pointer none)) ∧ w' = w := by
  have hw := h.works.worksMap
  obtain ⟨-, -, -, h3, -, -, -, -, -⟩ := h.seven
  generalize R.sb = sb at *
  go_enter Try.func30, Try.ntmps30
  go_wp2_with (at_lookup; go_must (refine wpList_lookup_opt _ rfl _ _ 59 rfl 3 73 intKeyOk Try.underlying59 Try.underlying3 _ (Try.zeroWork _) R.wm rfl n rfl _ hw ?_))
  go_ret
  refine ⟨?_, rfl⟩
  simp [look_map]

end Go.Proofs.Ytfcocbcihhdbkaa

/- What has been: which version of a key a state has. -/
namespace Go.Proofs.Ytfcocbcihhdbkaa
open Go.RowKit

set_option maxRecDepth 100000 in
set_option maxHeartbeats 400000 in
/-- upTo's closure: is the i-th version above the state? -/
theorem upTo1_any (i : Nat) (ab tb g len cap : Nat) (t st : Int) (w : World) (hi : i < len) (ha : w.cell? ⟨ab, 0, none⟩ = some (.slice (some ⟨g, 0, none⟩) len cap)) (ht : w.cell? ⟨tb, 0, none⟩ = some (.int .i64 t)) (hc : w.cell? ⟨g, i * 3, none⟩ = some (.int .i64 st)) :
    Calls Try.prog 82 #[.int .i64 i, .pointer (some ⟨ab, 0, none⟩), .pointer (some ⟨tb, 0, none⟩)] w fun e w' => e = .returned (.bool (decide (t < st))) ∧ Keeps (fun _ => False) w w' := by
  go_enter Try.func82, Try.ntmps82
  go_wp2
  go_region
  go_wp2
  go_ret
  exact ⟨rfl, Keeps.drew _ _⟩

theorem upTo1_int (x : Int) (i : Nat) (ab tb g len cap : Nat) (t st : Int) (w : World) (hx : x = i) (hi : i < len) (ha : w.cell? ⟨ab, 0, none⟩ = some (.slice (some ⟨g, 0, none⟩) len cap)) (ht : w.cell? ⟨tb, 0, none⟩ = some (.int .i64 t)) (hc : w.cell? ⟨g, i * 3, none⟩ = some (.int .i64 st)) :
    Calls Try.prog 82 #[.int .i64 x, .pointer (some ⟨ab, 0, none⟩), .pointer (some ⟨tb, 0, none⟩)] w fun e w' => e = .returned (.bool (decide (t < st))) ∧ Keeps (fun _ => False) w w' := by
  subst hx
  exact upTo1_any i ab tb g len cap t st w hi ha ht hc

set_option maxRecDepth 100000 in
set_option maxHeartbeats 400000 in
/-- sort.Search with it: how many versions are not above the state -/
theorem search_any (n : Nat) (ab tb g cap : Nat) (t : Int) (st : Nat → Int) (w : World) (hl : n ≤ 1000000000000) (ha : w.cell? ⟨ab, 0, none⟩ = some (.slice (some ⟨g, 0, none⟩) n cap)) (ht : w.cell? ⟨tb, 0, none⟩ = some (.int .i64 t))
    (hc : ∀ j, j < n → w.cell? ⟨g, j * 3, none⟩ = some (.int .i64 (st j))) (hs : ∀ i j, i ≤ j → j < n → st i ≤ st j) :
    Calls Try.prog 81 #[.int .i64 n, .func (.func 82) #[] #[.pointer (some ⟨ab, 0, none⟩), .pointer (some ⟨tb, 0, none⟩)]] w fun e w' =>
      ∃ r : Nat, e = .returned (.int .i64 r) ∧ r ≤ n ∧ (∀ j, j < r → st j ≤ t) ∧ (∀ j, r ≤ j → j < n → t < st j) ∧ Keeps (fun _ => False) w w' := by
  have HC : Hid (∀ j, j < n → w.cell? ⟨g, j * 3, none⟩ = some (.int .i64 (st j))) := hc
  have HS : Hid (∀ i j, i ≤ j → j < n → st i ≤ st j) := hs
  clear hc hs
  go_enter Try.func81, Try.ntmps81
  go_wp2
  go_loopw [5, 6] (fun x y wr => ∃ i j : Nat, x = .int .i64 i ∧ y = .int .i64 j ∧ i ≤ j ∧ j ≤ n ∧ (∀ k, k < i → st k ≤ t) ∧ (∀ k, j ≤ k → k < n → t < st k) ∧ Keeps (fun _ => False) w wr) (fun x y _ => ((intOf y) - (intOf x)).toNat)
  case atStart => exact ⟨0, n, rfl, rfl, Nat.zero_le _, Nat.le_refl _, fun k hk => by omega, fun k h1 h2 => by omega, Keeps.refl _ _⟩
  case round =>
    obtain ⟨i, j, rfl, rfl, hij, hjn, hlo, hhi, hkr⟩ := hrel
    by_cases hlt : i < j
    · obtain ⟨m, hm⟩ : ∃ m : Nat, m = (i + j) / 2 := ⟨_, rfl⟩
      have hm1 : i ≤ m := by omega
      have hm2 : m < j := by omega
      have hmz : ((i : Int) + j) / 2 = m := by omega
      have HM : Hid (((i : Int) + j) / 2 = m) := hmz
      have har : wr.cell? ⟨ab, 0, none⟩ = some (.slice (some ⟨g, 0, none⟩) n cap) := hkr.cell (p := ⟨ab, 0, none⟩) ha (fun h => h)
      have htr : wr.cell? ⟨tb, 0, none⟩ = some (.int .i64 t) := hkr.cell (p := ⟨tb, 0, none⟩) ht (fun h => h)
      have hcr : wr.cell? ⟨g, m * 3, none⟩ = some (.int .i64 (st m)) := hkr.cell (p := ⟨g, m * 3, none⟩) (HC.out m (by omega)) (fun h => h)
      have hct := upTo1_int (((i : Int) + j) / 2) m ab tb g n cap t (st m) wr hmz (by omega) har htr hcr
      clear hmz hm hcr har htr
      by_cases hd : t < st m
      · have hb : decide (t < st m) = true := by simpa using hd
        rw [hb] at hct
        clear hb
        go_wp2_with (go_at_call 82; go_must (refine hct.mono ?_; rintro e w1 ⟨rfl, hk1⟩))
        go_roundw
        case rel => exact ⟨i, m, rfl, by rw [HM.out], hm1, by omega, hlo, fun k h1 h2 => Int.lt_of_lt_of_le hd (HS.out m k h1 h2), hkr.tr hk1 (fun _ h => h)⟩
        case measure => simp [intOf]; omega
      · have hb : decide (t < st m) = false := by simpa using hd
        rw [hb] at hct
        clear hb
        go_wp2_with (go_at_call 82; go_must (refine hct.mono ?_; rintro e w1 ⟨rfl, hk1⟩))
        go_roundw
        case rel => exact ⟨m + 1, j, by rw [HM.out]; rfl, rfl, by omega, hjn, fun k hk => Int.le_trans (HS.out k m (by omega) (by omega)) (by omega), hhi, hkr.tr hk1 (fun _ h => h)⟩
        case measure => simp [intOf]; omega
    · go_wp2
      go_ret
      have : i = j := by omega
      subst this
      exact ⟨i, rfl, hjn, hlo, hhi, hkr⟩

end Go.Proofs.Ytfcocbcihhdbkaa
