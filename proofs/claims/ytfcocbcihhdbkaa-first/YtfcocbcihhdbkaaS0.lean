/- How a store lies in memory. -/
import Derived.Test.YtfcocbcihhdbkaaW4
namespace Go.Proofs.Ytfcocbcihhdbkaa
open Go.RowKit

/-- a version -/
structure Ver where
  state : Int
  value : ByteArray
  gone : Bool

def Ver.val (v : Ver) : Value := .agg #[.int .i64 v.state, .string v.value, .bool v.gone]
def Ver.cells (v : Ver) : List Value := [.int .i64 v.state, .string v.value, .bool v.gone]

/-- an open work, with its places -/
structure WkR where
  blk : Nat
  mb : Nat
  began : Int
  writes : List (ByteArray × Ver)

/-- a key's versions, with their place -/
structure HsR where
  sl : Value
  vers : List Ver

/-- an open copying -/
structure Cop where
  full : Bool
  from' : Int
  to : Int
  headed : Bool
  next : ByteArray
  sum : Int
  count : Int

def Cop.val (x : Cop) : Value := .agg #[.bool x.full, .int .i64 x.from', .int .i64 x.to, .bool x.headed, .string x.next, .int .u32 x.sum, .int .i64 x.count]

/-- a store, with its places -/
structure Rep where
  sb : Nat
  now : Int
  floor : Int
  begun : Int
  wm : Option Nat
  works : List (Int × WkR)
  pm : Option Nat
  pins : List (Int × Int)
  started : Int
  cm : Option Nat
  copyings : List (Int × Cop)
  kv : Value
  keys : List ByteArray
  vm : Option Nat
  hist : List (ByteArray × HsR)

/-- the blocks of what has been -/
def Rep.fpPast (R : Rep) : List Nat := R.kv.ownBlock.toList ++ R.vm.toList ++ R.hist.flatMap (fun p => p.2.sl.ownBlock.toList)
/-- the blocks of the pins and copyings -/
def pcOf (pm cm : Option Nat) : List Nat := pm.toList ++ cm.toList
/-- the blocks of the works, pins and copyings -/
def Rep.fpWorks (R : Rep) : List Nat := R.wm.toList ++ pcOf R.pm R.cm ++ R.works.flatMap (fun p => [p.2.blk, p.2.mb])
/-- the store's blocks -/
def Rep.fp (R : Rep) : List Nat := R.sb :: (R.fpWorks ++ R.fpPast)

def workPtr (x : WkR) : Value := .pointer (some ⟨x.blk, 0, none⟩)

/-- What has been lies so. -/
structure PastAt (w : World) (kv : Value) (keys : List ByteArray) (vm : Option Nat) (hist : List (ByteArray × HsR)) : Prop where
  keysRow : Row w 9 1 kv keys.length (keys.map Value.string)
  histMap : OptMap Value.string w vm (hist.map fun p => (p.1, p.2.sl))
  histEach : ∀ p ∈ hist, Row w 79 3 p.2.sl p.2.vers.length (p.2.vers.flatMap Ver.cells)

/-- The works and pins lie so. -/
structure WorksAt (w : World) (R : Rep) : Prop where
  worksMap : OptMap (Value.int .i64) w R.wm (R.works.map fun p => (p.1, workPtr p.2))
  worksEach : ∀ p ∈ R.works, w.heap[p.2.blk]? = some (.cells #[.int .i64 p.2.began, .map (some p.2.mb)] 76 (0, 0)) ∧ MapAt Value.string w p.2.mb (p.2.writes.map fun q => (q.1, q.2.val))
  pinsMap : OptMap (Value.int .i64) w R.pm (R.pins.map fun p => (p.1, .int .i64 p.2))
  copyMap : OptMap (Value.int .i64) w R.cm (R.copyings.map fun p => (p.1, p.2.val))

def topCells (R : Rep) : Array Value := #[.int .i64 R.now, .int .i64 R.floor, .int .i64 R.begun, .map R.wm, .map R.pm, .int .i64 R.started, .map R.cm, R.kv, .map R.vm]

/-- The store lies so. -/
structure StoreAt (w : World) (R : Rep) : Prop where
  top : w.heap[R.sb]? = some (.cells (topCells R) 66 (0, 0))
  works : WorksAt w R
  past : PastAt w R.kv R.keys R.vm R.hist
  nodup : R.fp.Nodup

theorem PastAt.kept {w w' : World} {kv : Value} {keys : List ByteArray} {vm : Option Nat} {hist : List (ByteArray × HsR)} {S : Nat → Prop} (h : PastAt w kv keys vm hist) (hk : Keeps S w w')
    (hS : ∀ k, k ∈ kv.ownBlock.toList ++ vm.toList ++ hist.flatMap (fun p => p.2.sl.ownBlock.toList) → ¬ S k) : PastAt w' kv keys vm hist := by
  refine ⟨h.keysRow.kept hk (fun g hg => hS g (by simp [hg])), h.histMap.kept hk (fun b hb => hS b (by simp [hb])), fun p hp => (h.histEach p hp).kept hk (fun g hg => hS g ?_)⟩
  simp only [List.mem_append, List.mem_flatMap]
  exact .inr ⟨p, hp, by simp [hg]⟩

theorem WorksAt.kept {w w' : World} {R : Rep} {S : Nat → Prop} (h : WorksAt w R) (hk : Keeps S w w') (hS : ∀ k, k ∈ R.fpWorks → ¬ S k) : WorksAt w' R := by
  refine ⟨h.worksMap.kept hk (fun b hb => hS b (by simp [Rep.fpWorks, hb])), fun p hp => ?_, h.pinsMap.kept hk (fun b hb => hS b (by simp [Rep.fpWorks, pcOf, hb])), h.copyMap.kept hk (fun b hb => hS b (by simp [Rep.fpWorks, pcOf, hb]))⟩
  obtain ⟨h1, h2⟩ := h.worksEach p hp
  have hm : ∀ k, k = p.2.blk ∨ k = p.2.mb → ¬ S k := fun k hk' => hS k (by
    simp only [Rep.fpWorks, List.mem_append, List.mem_flatMap]
    exact .inr ⟨p, hp, by simpa using hk'⟩)
  exact ⟨(hk.block _ (Array.getElem?_eq_some_iff.1 h1).1 (hm _ (.inl rfl))).trans h1, h2.kept hk (hm _ (.inr rfl))⟩

theorem StoreAt.kept {w w' : World} {R : Rep} {S : Nat → Prop} (h : StoreAt w R) (hk : Keeps S w w') (hS : ∀ k, k ∈ R.fp → ¬ S k) : StoreAt w' R :=
  ⟨(hk.block _ (Array.getElem?_eq_some_iff.1 h.top).1 (hS _ (by simp [Rep.fp]))).trans h.top, h.works.kept hk (fun k hk' => hS k (by simp [Rep.fp, hk'])),
    h.past.kept hk (fun k hk' => hS k (List.mem_cons_of_mem _ (List.mem_append_right _ hk'))), h.nodup⟩

theorem StoreAt.cell {w : World} {R : Rep} (h : StoreAt w R) (j : Nat) : w.cell? ⟨R.sb, j, none⟩ = (topCells R)[j]? := by simp [World.cell?, h.top]
theorem StoreAt.frozen {w : World} {R : Rep} (h : StoreAt w R) (j : Nat) : w.frozen? ⟨R.sb, j, none⟩ = false := by simp [World.frozen?, h.top]
theorem StoreAt.lt {w : World} {R : Rep} (h : StoreAt w R) : R.sb < w.heap.size := (Array.getElem?_eq_some_iff.1 h.top).1

/-- All nine cells, for a walk. -/
theorem StoreAt.seven {w : World} {R : Rep} (h : StoreAt w R) : w.cell? ⟨R.sb, 0, none⟩ = some (.int .i64 R.now) ∧ w.cell? ⟨R.sb, 1, none⟩ = some (.int .i64 R.floor) ∧ w.cell? ⟨R.sb, 2, none⟩ = some (.int .i64 R.begun) ∧
    w.cell? ⟨R.sb, 3, none⟩ = some (.map R.wm) ∧ w.cell? ⟨R.sb, 4, none⟩ = some (.map R.pm) ∧ w.cell? ⟨R.sb, 5, none⟩ = some (.int .i64 R.started) ∧ w.cell? ⟨R.sb, 6, none⟩ = some (.map R.cm) ∧ w.cell? ⟨R.sb, 7, none⟩ = some R.kv ∧ w.cell? ⟨R.sb, 8, none⟩ = some (.map R.vm) :=
  ⟨h.cell 0, h.cell 1, h.cell 2, h.cell 3, h.cell 4, h.cell 5, h.cell 6, h.cell 7, h.cell 8⟩

set_option maxRecDepth 100000 in
set_option maxHeartbeats 400000 in
/-- find: the open work of a number -/
theorem find_any (R : Rep) (n : Int) (w : World) (h : StoreAt w R) :
    Calls Try.prog 30 #[.pointer (some ⟨R.sb, 0, none⟩), .int .i64 n] w fun e w' => e = .returned (((look R.works n).map workPtr).getD (.pointer none)) ∧ w' = w := by
  have hw := h.works.worksMap
  obtain ⟨-, -, -, h3, -, -, -, -, -⟩ := h.seven
  generalize R.sb = sb at *
  go_enter Try.func30, Try.ntmps30
  go_wp2_with (at_lookup; go_must (refine wpList_lookup_opt _ rfl _ _ 59 rfl 3 73 intKeyOk Try.underlying59 Try.underlying3 _ (Try.zeroWork _) R.wm rfl n rfl _ hw ?_))
  go_ret
  refine ⟨?_, rfl⟩
  simp [look_map]

end Go.Proofs.Ytfcocbcihhdbkaa
