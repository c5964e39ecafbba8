import Derived.Test.YtkpaiaddikpdoaaGreatDoorM17
import Derived.LaidEql
import Derived.Stop.Asserts
import Derived.RowKitTokens

/- errors.Is of a fault and the error of the check: by Go's own text. -/

namespace Go.Proofs.YtkpaiaddikpdoaaGreatDoor

open Go.RowKit Go.Extern.Stop Go.Stop Go.Extern

/-! what the model's entries give at an error that errors.New has made -/

theorem Tryz.esTypeOf (v : Value) (w : World) : (Extern.ReflectliteType.typeOf #[.iface 187 v]).run Tryz.prog w = .ok (.iface 129 (.agg #[.pointer (some ⟨16, 187, none⟩)])) w := by kernel_rfl

def cmpEntry : Array Value → Sem Value := Extern.ReflectliteType.method fun t => do Extern.Rtype.noPackHeld "Comparable" t; pure (.bool (← typeInfo t).comparable)

theorem Tryz.esComparable (w : World) : (cmpEntry #[.agg #[.pointer (some ⟨16, 187, none⟩)]]).run Tryz.prog w = .ok (.bool true) w := by kernel_rfl

theorem Tryz.esMethod (v : Value) (w : World) : (Go.method 318 129 v "Comparable").run Tryz.prog w = .ok (127, v) w := by kernel_rfl

theorem Tryz.esComp : (Tryz.prog.info? 187).map (·.comparable) = some true := by kernel_rfl

theorem Tryz.esSize : (Tryz.prog.info? 206).map (·.size) = some 1 := by kernel_rfl

/-! what errors.is asks of an error's methods -/

theorem Tryz.esNoIs (v : Value) (xT : TypeId) (w : World) : (Instr.typeAssert (.iface 187 v) xT 131 true).run Tryz.prog w = .ok (.tuple #[.nilIface, .bool false]) w := run_typeAssert_lacksB Tryz.underlying131 (by kernel_rfl) (by kernel_rfl) v xT w

theorem Tryz.esNoUnwrap (v : Value) (xT : TypeId) (w : World) : (Instr.typeAssert (.iface 187 v) xT 134 true).run Tryz.prog w = .ok (.tuple #[.nilIface, .bool false]) w := run_typeAssert_lacksB Tryz.underlying134 (by kernel_rfl) (by kernel_rfl) v xT w

theorem Tryz.esNoUnwraps (v : Value) (xT : TypeId) (w : World) : (Instr.typeAssert (.iface 187 v) xT 135 true).run Tryz.prog w = .ok (.tuple #[.nilIface, .bool false]) w := run_typeAssert_lacksB Tryz.underlying135 (by kernel_rfl) (by kernel_rfl) v xT w

theorem Tryz.ftNoIs (v : Value) (xT : TypeId) (w : World) : (Instr.typeAssert (.iface 98 v) xT 131 true).run Tryz.prog w = .ok (.tuple #[.nilIface, .bool false]) w := run_typeAssert_lacksB Tryz.underlying131 (by kernel_rfl) (by kernel_rfl) v xT w

theorem Tryz.ftUnwrap (v : Value) (xT : TypeId) (w : World) : (Instr.typeAssert (.iface 98 v) xT 134 true).run Tryz.prog w = .ok (.tuple #[.iface 98 v, .bool true]) w := run_typeAssert_hasB Tryz.underlying134 (by kernel_rfl) v xT w

theorem Tryz.ftMethod (v : Value) (w : World) : (Go.method 318 98 v "Unwrap").run Tryz.prog w = .ok (124, v) w := by kernel_rfl

set_option maxRecDepth 100000 in
set_option maxHeartbeats 2000000 in
/-- a fault whose error is the one that is asked for -/
theorem is_sum (b : Nat) (a : Addr) (w : World) (h1 : w.cell? ⟨b, 1, none⟩ = some (.iface 187 (.pointer (some a)))) :
    Calls Tryz.prog 21 #[.iface 98 (.pointer (some ⟨b, 0, none⟩)), .iface 187 (.pointer (some a))] w fun e w' => e = .returned (.bool true) ∧ w' = w := by
  obtain ⟨i, hi, hcmp⟩ := Option.map_eq_some_iff.1 Tryz.esComp
  obtain ⟨j, hj, hjs⟩ := Option.map_eq_some_iff.1 Tryz.esSize
  have h8 := @run_callFunc_extern Tryz.prog 47 _ Extern.ReflectliteType.typeOf Tryz.func47 (by kernel_rfl) (by kernel_rfl) (by kernel_rfl) (by kernel_rfl)
  have h32 := @run_callFunc_extern Tryz.prog 127 _ cmpEntry Tryz.func127 (by kernel_rfl) (by kernel_rfl) (by kernel_rfl) (by kernel_rfl)
  have tT := Tryz.esTypeOf
  have cT := Tryz.esComparable
  have mR := Tryz.esMethod
  have nW := Tryz.ftNoIs
  have uW := Tryz.ftUnwrap
  have mU := Tryz.ftMethod
  have heq := run_eql_iface_ptr_same (P := Tryz.prog) w a Tryz.underlying57 Tryz.underlying187 hi hcmp hj
  have hty := run_eql_iface_types (P := Tryz.prog) 98 187 (.pointer (some ⟨b, 0, none⟩)) (.pointer (some a)) Tryz.underlying57 (by decide) w
  go_enter Tryz.func21, Tryz.ntmps21
  go_wp2
  refine wp_loop_rounds 2 ?_
  rw [rounds_succ]
  go_wp2
  rw [rounds_succ]
  go_wp2
  go_ret
  exact ⟨rfl, rfl⟩

set_option maxRecDepth 100000 in
set_option maxHeartbeats 2000000 in
/-- a fault with another error -/
theorem is_not_sum (b : Nat) (a c : Addr) (ca cb : Array Value) (ta tb : TypeId) (w : World) (h1 : w.cell? ⟨b, 1, none⟩ = some (.iface 187 (.pointer (some c)))) (hne : c ≠ a) (hc : w.heap[c.block]? = some (.cells ca ta (0, 0))) (ha : w.heap[a.block]? = some (.cells cb tb (0, 0))) :
    Calls Tryz.prog 21 #[.iface 98 (.pointer (some ⟨b, 0, none⟩)), .iface 187 (.pointer (some a))] w fun e w' => e = .returned (.bool false) ∧ w' = w := by
  obtain ⟨i, hi, hcmp⟩ := Option.map_eq_some_iff.1 Tryz.esComp
  obtain ⟨j, hj, hjs⟩ := Option.map_eq_some_iff.1 Tryz.esSize
  have h8 := @run_callFunc_extern Tryz.prog 47 _ Extern.ReflectliteType.typeOf Tryz.func47 (by kernel_rfl) (by kernel_rfl) (by kernel_rfl) (by kernel_rfl)
  have h32 := @run_callFunc_extern Tryz.prog 127 _ cmpEntry Tryz.func127 (by kernel_rfl) (by kernel_rfl) (by kernel_rfl) (by kernel_rfl)
  have tT := Tryz.esTypeOf
  have cT := Tryz.esComparable
  have mR := Tryz.esMethod
  have nE := Tryz.esNoIs
  have uE := Tryz.esNoUnwrap
  have vE := Tryz.esNoUnwraps
  have nW := Tryz.ftNoIs
  have uW := Tryz.ftUnwrap
  have mU := Tryz.ftMethod
  have heq := run_eql_iface_ptr_other (P := Tryz.prog) w Tryz.underlying57 Tryz.underlying187 hi hcmp hj (by rw [hjs]; decide) hne hc ha
  have hty := run_eql_iface_types (P := Tryz.prog) 98 187 (.pointer (some ⟨b, 0, none⟩)) (.pointer (some a)) Tryz.underlying57 (by decide) w
  go_enter Tryz.func21, Tryz.ntmps21
  go_wp2
  refine wp_loop_rounds 2 ?_
  rw [rounds_succ]
  go_wp2
  rw [rounds_succ]
  go_wp2
  go_ret
  exact ⟨rfl, rfl⟩

end Go.Proofs.YtkpaiaddikpdoaaGreatDoor

/- errors.As of a fault, at a variable for a fault: by Go's own text. -/

namespace Go.Proofs.YtkpaiaddikpdoaaGreatDoor

open Go.RowKit Go.Extern.Stop Go.Stop Go.Extern

/-! the model's entries for internal/reflectlite, each under a name of its own -/

def enValueOf : Array Value → Sem Value := fun args => ReflectliteValue.unpack (args.getD 0 (.tuple #[]))

def enType : Array Value → Sem Value := ReflectliteValue.methodAny (ReflectliteValue.valueError "reflectlite.Value.Type" 0) (fun t _ _ _ => ReflectliteType.toType t)

def enIsNil : Array Value → Sem Value := ReflectliteValue.method (ReflectliteValue.valueError "reflectlite.Value.IsNil" 0) ReflectliteValue.isNil

def enKind : Array Value → Sem Value := ReflectliteType.abiMethod fun t => do pure (.int .u8 (← Rtype.kind t))

def enElemT : Array Value → Sem Value := ReflectliteType.method ReflectliteType.elem

def enImplements : Array Value → Sem Value := ReflectliteType.relation "Implements" ReflectliteType.implements_

def enAssignable : Array Value → Sem Value := ReflectliteType.relation "AssignableTo" ReflectliteType.assignableTo

def enElemV : Array Value → Sem Value := ReflectliteValue.method (ReflectliteValue.valueError "reflectlite.Value.Elem" 0) ReflectliteValue.elem

def enSet : Array Value → Sem Value := ReflectliteValue.set

theorem Tryz.asValueOf2 (t : Addr) (w : World) : (enValueOf #[.iface 109 (.pointer (some t))]).run Tryz.prog w = .ok (.agg #[.pointer (some ⟨16, 109, none⟩), .pointer (some ⟨w.heap.size, 0, none⟩), .int .u64 150]) (w.alloc (.cells #[.pointer (some t)] 109)) := by kernel_rfl

theorem Tryz.asValueOf1 (t : Addr) (w : World) : (enValueOf #[.iface 98 (.pointer (some t))]).run Tryz.prog w = .ok (.agg #[.pointer (some ⟨16, 98, none⟩), .pointer (some ⟨w.heap.size, 0, none⟩), .int .u64 150]) (w.alloc (.cells #[.pointer (some t)] 98)) := by kernel_rfl

theorem Tryz.asType2 (a : Addr) (w : World) : (enType #[.agg #[.pointer (some ⟨16, 109, none⟩), .pointer (some a), .int .u64 150]]).run Tryz.prog w = .ok (.iface 129 (.agg #[.pointer (some ⟨16, 109, none⟩)])) w := by kernel_rfl

theorem Tryz.asMethodKind (h : Value) (w : World) : (Go.method 318 129 (.agg #[h]) "Kind").run Tryz.prog w = .ok (119, h) w := by kernel_rfl

theorem Tryz.asKind2 (w : World) : (enKind #[.pointer (some ⟨16, 109, none⟩)]).run Tryz.prog w = .ok (.int .u8 22) w := by kernel_rfl

theorem Tryz.asKind1 (w : World) : (enKind #[.pointer (some ⟨16, 98, none⟩)]).run Tryz.prog w = .ok (.int .u8 22) w := by kernel_rfl

theorem Tryz.asMethodElem (h : Value) (w : World) : (Go.method 318 129 (.agg #[h]) "Elem").run Tryz.prog w = .ok (128, .agg #[h]) w := by kernel_rfl

theorem Tryz.asMethodImplements (h : Value) (w : World) : (Go.method 318 129 (.agg #[h]) "Implements").run Tryz.prog w = .ok (129, .agg #[h]) w := by kernel_rfl

theorem Tryz.asMethodAssignable (h : Value) (w : World) : (Go.method 318 129 (.agg #[h]) "AssignableTo").run Tryz.prog w = .ok (126, .agg #[h]) w := by kernel_rfl

theorem Tryz.asElem2 (w : World) : (enElemT #[.agg #[.pointer (some ⟨16, 109, none⟩)]]).run Tryz.prog w = .ok (.iface 129 (.agg #[.pointer (some ⟨16, 98, none⟩)])) w := by kernel_rfl

theorem Tryz.asImplements1 (w : World) : (enImplements #[.agg #[.pointer (some ⟨16, 98, none⟩)], .iface 129 (.agg #[.pointer (some ⟨16, 57, none⟩)])]).run Tryz.prog w = .ok (.bool true) w := by kernel_rfl

theorem Tryz.asTypeOf1 (v : Value) (w : World) : (ReflectliteType.typeOf #[.iface 98 v]).run Tryz.prog w = .ok (.iface 129 (.agg #[.pointer (some ⟨16, 98, none⟩)])) w := by kernel_rfl

theorem Tryz.asAssignable1 (w : World) : (enAssignable #[.agg #[.pointer (some ⟨16, 98, none⟩)], .iface 129 (.agg #[.pointer (some ⟨16, 98, none⟩)])]).run Tryz.prog w = .ok (.bool true) w := by kernel_rfl

/-! those that read or write memory -/

theorem Tryz.asParts2 (a : Addr) (w : World) : (ReflectliteValue.parts (.agg #[.pointer (some ⟨16, 109, none⟩), .pointer (some a), .int .u64 150])).run Tryz.prog w = .ok (some (109, a, 150)) w := by kernel_rfl

theorem Tryz.asParts1a (a : Addr) (w : World) : (ReflectliteValue.parts (.agg #[.pointer (some ⟨16, 98, none⟩), .pointer (some a), .int .u64 406])).run Tryz.prog w = .ok (some (98, a, 406)) w := by kernel_rfl

theorem Tryz.asParts1 (a : Addr) (w : World) : (ReflectliteValue.parts (.agg #[.pointer (some ⟨16, 98, none⟩), .pointer (some a), .int .u64 150])).run Tryz.prog w = .ok (some (98, a, 150)) w := by kernel_rfl

theorem Tryz.asElemOf2 (w : World) : (Rtype.elem? 109).run Tryz.prog w = .ok (some 98) w := by kernel_rfl

theorem Tryz.asMk1 (p : Addr) (w : World) : (ReflectliteValue.mk 98 p ReflectliteValue.flagAddr).run Tryz.prog w = .ok (.agg #[.pointer (some ⟨16, 98, none⟩), .pointer (some p), .int .u64 406]) w := by kernel_rfl

theorem Tryz.asDirect1 (w : World) : (Rtype.directlyAssignable 98 98).run Tryz.prog w = .ok true w := by kernel_rfl

theorem Tryz.asIsNil2 (a p : Addr) (W : World) (ha : W.cell? a = some (.pointer (some p))) : (enIsNil #[.agg #[.pointer (some ⟨16, 109, none⟩), .pointer (some a), .int .u64 150]]).run Tryz.prog W = .ok (.bool false) W := by
  change Sem.run Tryz.prog (ReflectliteValue.parts (.agg #[.pointer (some ⟨16, 109, none⟩), .pointer (some a), .int .u64 150]) >>= _) W = _
  simp only [Sem.run_bind, Tryz.asParts2, Result.andThen]
  simp [ReflectliteValue.isNil, loadVar, isAgg, underlying, Tryz.underlying109, ha, Result.andThen]

theorem Tryz.asElemV2 (a p : Addr) (W : World) (ha : W.cell? a = some (.pointer (some p))) : (enElemV #[.agg #[.pointer (some ⟨16, 109, none⟩), .pointer (some a), .int .u64 150]]).run Tryz.prog W = .ok (.agg #[.pointer (some ⟨16, 98, none⟩), .pointer (some p), .int .u64 406]) W := by
  change Sem.run Tryz.prog (ReflectliteValue.parts (.agg #[.pointer (some ⟨16, 109, none⟩), .pointer (some a), .int .u64 150]) >>= _) W = _
  simp only [Sem.run_bind, Tryz.asParts2, Result.andThen]
  simp [ReflectliteValue.elem, loadVar, isAgg, underlying, Tryz.underlying109, ha, Result.andThen, Tryz.asElemOf2, Tryz.asMk1]

theorem Tryz.asSet1 (ta b e : Addr) (old : Value) (W : World) (hb : W.cell? b = some (.pointer (some e))) (ht : W.cell? ta = some old) (hf : W.frozen? ta = false) : (enSet #[.agg #[.pointer (some ⟨16, 98, none⟩), .pointer (some ta), .int .u64 406], .agg #[.pointer (some ⟨16, 98, none⟩), .pointer (some b), .int .u64 150]]).run Tryz.prog W = .ok (.tuple #[]) (W.setCell ta (.pointer (some e))) := by
  change Sem.run Tryz.prog (ReflectliteValue.parts (.agg #[.pointer (some ⟨16, 98, none⟩), .pointer (some ta), .int .u64 406]) >>= fun p => ReflectliteValue.parts (.agg #[.pointer (some ⟨16, 98, none⟩), .pointer (some b), .int .u64 150]) >>= _) W = _
  simp only [Sem.run_bind, Tryz.asParts1a, Tryz.asParts1, Result.andThen]
  simp [ReflectliteValue.flagAddr, loadVar, isAgg, underlying, Tryz.underlying98, hb, Result.andThen, Tryz.asDirect1, storeVar, Value.cells, storeCells, Addr.add]
  rw [run_store Tryz.prog W ta _ _ (by rfl)]
  simp [ht, hf]

set_option maxRecDepth 100000 in
set_option maxHeartbeats 4000000 in
/-- the variable gets the fault; four blocks are new -/
theorem as_fault (e t : Addr) (old : Value) (w : World) (hg : w.cell? ⟨7, 0, none⟩ = some (.iface 129 (.agg #[.pointer (some ⟨16, 57, none⟩)]))) (ht0 : w.cell? t = some old) (hf0 : w.frozen? t = false) :
    Calls Tryz.prog 49 #[.iface 98 (.pointer (some e)), .iface 109 (.pointer (some t))] w fun ev w' => ev = .returned (.bool true) ∧ w' = ((((w.alloc (.cells #[.pointer (some t)] 109)).alloc (.cells #[.pointer (some ⟨16, 109, none⟩), .pointer (some ⟨w.heap.size, 0, none⟩), .int .u64 150] 141)).alloc (.cells #[.pointer (some ⟨16, 109, none⟩), .pointer (some ⟨w.heap.size, 0, none⟩), .int .u64 150] 141)).alloc (.cells #[.pointer (some e)] 98)).setCell t (.pointer (some e)) := by
  have h6 := @run_callFunc_extern Tryz.prog 66 _ enValueOf Tryz.func66 (by kernel_rfl) (by kernel_rfl) (by kernel_rfl) (by kernel_rfl)
  have h7 := @run_callFunc_extern Tryz.prog 67 _ enType Tryz.func67 (by kernel_rfl) (by kernel_rfl) (by kernel_rfl) (by kernel_rfl)
  have h8 := @run_callFunc_extern Tryz.prog 68 _ enIsNil Tryz.func68 (by kernel_rfl) (by kernel_rfl) (by kernel_rfl) (by kernel_rfl)
  have h27 := @run_callFunc_extern Tryz.prog 119 _ enKind Tryz.func119 (by kernel_rfl) (by kernel_rfl) (by kernel_rfl) (by kernel_rfl)
  have h37 := @run_callFunc_extern Tryz.prog 128 _ enElemT Tryz.func128 (by kernel_rfl) (by kernel_rfl) (by kernel_rfl) (by kernel_rfl)
  have h38 := @run_callFunc_extern Tryz.prog 129 _ enImplements Tryz.func129 (by kernel_rfl) (by kernel_rfl) (by kernel_rfl) (by kernel_rfl)
  have h10 := @run_callFunc_extern Tryz.prog 47 _ ReflectliteType.typeOf Tryz.func47 (by kernel_rfl) (by kernel_rfl) (by kernel_rfl) (by kernel_rfl)
  have h35 := @run_callFunc_extern Tryz.prog 126 _ enAssignable Tryz.func126 (by kernel_rfl) (by kernel_rfl) (by kernel_rfl) (by kernel_rfl)
  have h11 := @run_callFunc_extern Tryz.prog 80 _ enElemV Tryz.func80 (by kernel_rfl) (by kernel_rfl) (by kernel_rfl) (by kernel_rfl)
  have h12 := @run_callFunc_extern Tryz.prog 81 _ enSet Tryz.func81 (by kernel_rfl) (by kernel_rfl) (by kernel_rfl) (by kernel_rfl)
  have tO := Tryz.asTypeOf1
  have mA := Tryz.asMethodAssignable
  have a25 := Tryz.asAssignable1
  have v25 := Tryz.asValueOf1
  have f6 := Tryz.asValueOf2
  have f7 := Tryz.asType2
  have mK := Tryz.asMethodKind
  have mE := Tryz.asMethodElem
  have mI := Tryz.asMethodImplements
  have k27 := Tryz.asKind2
  have k25 := Tryz.asKind1
  have e27 := Tryz.asElem2
  have i25 := Tryz.asImplements1
  have n8 := Tryz.asIsNil2 ⟨w.heap.size, 0, none⟩ t ((w.alloc (.cells #[.pointer (some t)] 109)).alloc (.cells #[.pointer (some ⟨16, 109, none⟩), .pointer (some ⟨w.heap.size, 0, none⟩), .int .u64 150] 141)) (by simp)
  have hlt : 7 < w.heap.size := World.block_lt_of_cell? _ _ hg
  have hg2 : ((w.alloc (.cells #[.pointer (some t)] 109)).alloc (.cells #[.pointer (some ⟨16, 109, none⟩), .pointer (some ⟨w.heap.size, 0, none⟩), .int .u64 150] 141)).cell? ⟨7, 0, none⟩ = some (.iface 129 (.agg #[.pointer (some ⟨16, 57, none⟩)])) := by
    rw [World.cell?_alloc_lt _ _ ⟨7, 0, none⟩ (by simp; omega), World.cell?_alloc_lt _ _ ⟨7, 0, none⟩ hlt]; exact hg
  have htl : t.block < w.heap.size := World.block_lt_of_cell? _ _ ht0
  have el := Tryz.asElemV2 ⟨w.heap.size, 0, none⟩ t (((w.alloc (.cells #[.pointer (some t)] 109)).alloc (.cells #[.pointer (some ⟨16, 109, none⟩), .pointer (some ⟨w.heap.size, 0, none⟩), .int .u64 150] 141)).alloc (.cells #[.pointer (some ⟨16, 109, none⟩), .pointer (some ⟨w.heap.size, 0, none⟩), .int .u64 150] 141)) (by rw [World.cell?_alloc_lt _ _ ⟨w.heap.size, 0, none⟩ (by simp; omega)]; simp)
  have st := Tryz.asSet1 t ⟨w.heap.size + 1 + 1 + 1, 0, none⟩ e old ((((w.alloc (.cells #[.pointer (some t)] 109)).alloc (.cells #[.pointer (some ⟨16, 109, none⟩), .pointer (some ⟨w.heap.size, 0, none⟩), .int .u64 150] 141)).alloc (.cells #[.pointer (some ⟨16, 109, none⟩), .pointer (some ⟨w.heap.size, 0, none⟩), .int .u64 150] 141)).alloc (.cells #[.pointer (some e)] 98))
    (by rw [World.cell?_alloc_at _ _ _ _ (by simp)]; rfl)
    (by rw [World.cell?_alloc_lt _ _ t (by simp; omega), World.cell?_alloc_lt _ _ t (by simp; omega), World.cell?_alloc_lt _ _ t (by simp; omega), World.cell?_alloc_lt _ _ t htl]; exact ht0)
    (by rw [World.frozen?_alloc_old _ _ t (by simp; omega), World.frozen?_alloc_old _ _ t (by simp; omega), World.frozen?_alloc_old _ _ t (by simp; omega), World.frozen?_alloc_old _ _ t (Nat.ne_of_lt htl)]; exact hf0)
  go_enter Tryz.func49, Tryz.ntmps49
  go_wp2
  refine wp_loop_rounds 1 ?_
  rw [rounds_succ]
  go_wp2
  go_ret
  exact ⟨rfl, rfl⟩

end Go.Proofs.YtkpaiaddikpdoaaGreatDoor

/- Encode, Decode. -/

namespace Go.Proofs.YtkpaiaddikpdoaaGreatDoor

open Go.RowKit Go.Shelf

/-- the package-level variables as the program lays them: errors that errors.New made, the one of the check apart from the others; the type of errors; the table -/
structure Glob (w : World) : Prop where
  sum : ∃ a : Addr, w.cell? ⟨0, 0, none⟩ = some (.iface 187 (.pointer (some a))) ∧ (∃ ca ta, w.heap[a.block]? = some (.cells ca ta (0, 0))) ∧ ∀ g, NoSum g → ∃ c : Addr, w.cell? ⟨g, 0, none⟩ = some (.iface 187 (.pointer (some c))) ∧ c ≠ a ∧ ∃ ca ta, w.heap[c.block]? = some (.cells ca ta (0, 0))
  type : w.cell? ⟨7, 0, none⟩ = some (.iface 129 (.agg #[.pointer (some ⟨16, 57, none⟩)]))
  turns : TurnsAt w

theorem cells_kept {w w' : World} {k : Nat} (h : ∃ ca ta, w.heap[k]? = some (.cells ca ta (0, 0))) (hk : Keeps (fun _ => False) w w') : ∃ ca ta, w'.heap[k]? = some (.cells ca ta (0, 0)) := by
  obtain ⟨ca, ta, h⟩ := h
  exact ⟨ca, ta, (hk.block k (Array.getElem?_eq_some_iff.1 h).1 (fun h => h)).trans h⟩

theorem Glob.kept {w w' : World} (h : Glob w) (hk : Keeps (fun _ => False) w w') : Glob w' := by
  obtain ⟨⟨a, h1, h2, h3⟩, h4, h5⟩ := h
  refine ⟨⟨a, hk.cell h1 (fun h => h), cells_kept h2 hk, fun g hg => ?_⟩, hk.cell h4 (fun h => h), h5.kept hk (fun h => h)⟩
  obtain ⟨c, c1, c2, c3⟩ := h3 g hg
  exact ⟨c, hk.cell c1 (fun h => h), c2, cells_kept c3 hk⟩

theorem Glob.errs {w : World} (h : Glob w) : ErrsAt w := fun g hg => by
  obtain ⟨⟨a, -, -, h3⟩, -, -⟩ := h
  obtain ⟨c, c1, -⟩ := h3 g hg
  exact ⟨_, _, c1⟩

theorem Glob.zero {w : World} (h : Glob w) : ErrAt w 0 := by
  obtain ⟨⟨a, h1, -⟩, -, -⟩ := h
  exact ⟨_, _, h1⟩

theorem Glob.judge {w : World} (h : Glob w) : ∀ g, 2 ≤ g → g ≤ 6 → ErrAt w g := fun g h1 h2 => h.errs g (.inl ⟨by omega, h2⟩)

/-- what Encode says -/
def EncPost (ok : Bool) (s : List UInt8) (w : World) (e : Ending) (w' : World) : Prop := e = .returned (if ok = true then .tuple #[.string (ofL s), .int .i64 0] else .tuple #[.string ⟨#[]⟩, .int .i64 6]) ∧ Keeps (fun _ => False) w w'

set_option maxRecDepth 100000 in
set_option maxHeartbeats 2000000 in
theorem encode_bad (full : Bool) (a b : Int) (oa : Option Addr) (cap : Nat) (l : List RecB) (w : World) (hr : RecIn w oa l) (hl : l.length ≤ maxLen) (hs : ∀ r ∈ l, r.key.size ≤ maxLen ∧ r.value.size ≤ maxLen) (hg : Glob w) (hj : judgeB full a b l = false) :
    Calls Tryz.prog 8 #[.agg #[.bool full, .int .i64 a, .int .i64 b, .slice oa l.length cap]] w (EncPost false [] w) := by
  have ka := Keeps.alloc (fun _ => False) w (.cells #[.bool full, .int .i64 a, .int .i64 b, .slice oa l.length cap] 34)
  have HJ := hid (write_bad full a b oa cap l _ (hr.kept ka) hl hs (hg.kept ka).judge hj)
  clear hr hl hs hg hj ka
  go_enter Tryz.func8, Tryz.ntmps8
  go_wp2_with fail
  refine HJ.out.mono ?_
  rintro e w1 ⟨⟨t, v, -, rfl⟩, k1⟩
  clear HJ
  go_wp2
  go_ret2
  exact ⟨rfl, ((Keeps.refl _ w).al _).tr k1 (fun _ h => h)⟩

set_option maxRecDepth 100000 in
set_option maxHeartbeats 2000000 in
theorem encode_good (full : Bool) (a b : Nat) (oa : Option Addr) (cap : Nat) (l : List RecB) (w : World) (hr : RecIn w oa l) (hlc : l.length ≤ cap) (hcm : cap ≤ maxLen) (hg : Glob w) (hj : judgeB full a b l = true) :
    Calls Tryz.prog 8 #[.agg #[.bool full, .int .i64 (a : Nat), .int .i64 (b : Nat), .slice oa l.length cap]] w (EncPost true (streamL ⟨full, a, b, l.map RecB.rec_⟩) w) := by
  have ka := Keeps.alloc (fun _ => False) w (.cells #[.bool full, .int .i64 (a : Nat), .int .i64 (b : Nat), .slice oa l.length cap] 34)
  have HJ := hid (write_good full a b oa cap l _ (hr.kept ka) hlc hcm (hg.kept ka).judge (hg.kept ka).turns hj)
  clear hr hlc hcm hg hj ka
  generalize streamL ⟨full, a, b, l.map RecB.rec_⟩ = s at *
  go_enter Tryz.func8, Tryz.ntmps8
  go_wp2_with fail
  refine HJ.out.mono ?_
  rintro e w1 ⟨e1, k1⟩
  have e2 : e = .returned (.tuple #[.string (ofL s), .nilIface]) := e1
  subst e2
  clear HJ e1
  go_wp2
  go_ret2
  exact ⟨rfl, ((Keeps.refl _ w).al _).tr k1 (fun _ h => h)⟩

set_option maxRecDepth 100000 in
set_option maxHeartbeats 2000000 in
theorem placeOf_any (b p : Nat) (x : Value) (w : World) (hg : Glob w) (hb : w.heap[b]? = some (.cells #[.int .i64 (p : Nat), x] 100 (0, 0))) :
    Calls Tryz.prog 22 #[.iface 98 (.pointer (some ⟨b, 0, none⟩))] w fun e w' => e = .returned (.int .i64 (p : Nat)) ∧ Keeps (fun _ => False) w w' := by
  have hbl := (Array.getElem?_eq_some_iff.1 hb).1
  have HA : Hid (Calls Tryz.prog 49 #[.iface 98 (.pointer (some ⟨b, 0, none⟩)), .iface 109 (.pointer (some ⟨w.heap.size, 0, none⟩))] (w.alloc (.cells #[.pointer none] 98)) fun e w' => e = .returned (.bool true) ∧ w'.cell? ⟨w.heap.size, 0, none⟩ = some (.pointer (some ⟨b, 0, none⟩)) ∧ w'.cell? ⟨b, 0, none⟩ = some (.int .i64 (p : Nat)) ∧ Keeps (fun _ => False) w w') := by
    have hn := heap_new w (.cells #[.pointer none] 98)
    have ka := Keeps.alloc (fun _ => False) w (.cells #[.pointer none] 98)
    refine (as_fault ⟨b, 0, none⟩ ⟨w.heap.size, 0, none⟩ (.pointer none) _ (ka.cell hg.type (fun h => h)) (cell_of_heap hn 0) (frozen_of_heap hn 0)).mono ?_
    rintro e w' ⟨rfl, hw⟩
    have k1 : Keeps (fun _ => False) w w' := by
      rw [hw]
      exact ((((((Keeps.refl (fun _ => False) w).al (.cells #[.pointer none] 98)).al _).al _).al _).al _).trans (Keeps.setCell _ ⟨w.heap.size, 0, none⟩ (.pointer (some ⟨b, 0, none⟩))) (fun k hk e => by have e' : k = w.heap.size := e; omega)
    refine ⟨rfl, ?_, k1.cell (cell_of_heap hb 0) (fun h => h), k1⟩
    rw [hw]
    exact World.cell?_setCell_same _ _ _ (((((Keeps.refl (fun _ => False) _).al _).al _).al _ |>.al _).cell (cell_of_heap hn 0) (fun h => h))
  clear hg hb hbl
  go_enter Tryz.func22, Tryz.ntmps22
  go_wp2_with fail
  refine HA.out.mono ?_
  rintro e w1 ⟨rfl, c0, c1, k1⟩
  have HK := hid k1
  clear HA k1
  go_wp2
  go_ret
  exact ⟨rfl, HK.out⟩

end Go.Proofs.YtkpaiaddikpdoaaGreatDoor

/- Decode. -/

namespace Go.Proofs.YtkpaiaddikpdoaaGreatDoor

open Go.RowKit Go.Shelf

/-- what Decode says -/
def DecPost (x : RdO) (w : World) (e : Ending) (w' : World) : Prop := (match x with
  | none => e = .returned (.tuple #[strZ, .int .i64 0, .int .i64 7])
  | some (.inl p) => e = .returned (.tuple #[strZ, .int .i64 (p : Nat), .int .i64 6])
  | some (.inr s) => ∃ oa cap, e = .returned (.tuple #[.agg #[.bool s.full, .int .i64 (s.a : Nat), .int .i64 (s.b : Nat), .slice oa s.recs.length cap], .int .i64 0, .int .i64 0]) ∧ Row w' 31 3 (.slice oa s.recs.length cap) s.recs.length (recCs (s.recs.map recB)) ∧ ∀ g, (Value.slice oa s.recs.length cap).ownBlock = some g → w.heap.size ≤ g) ∧ Keeps (fun _ => False) w w'

theorem results_cell_two {fn : Func} {p u y : Tmp} {ty : TypeId} (h : fn.results = #[.cell p ty, .tmp u, .tmp y]) (tmps : Array Value) (P : Program) (w : World) :
    (results fn tmps).run P w = ((asAddr (tmps.getD p undef)).run P w).andThen fun a w₁ => ((loadVar ty a).run P w₁).andThen fun v w₂ => .ok (.tuple #[v, tmps.getD u undef, tmps.getD y undef]) w₂ := by
  simp only [results, h]
  simp [Sem.run_bind, Result.andThen]

set_option maxRecDepth 100000 in
set_option maxHeartbeats 4000000 in
theorem decode_any (text : ByteArray) (w : World) (hts : text.size ≤ 10000000000) (hg : Glob w) :
    Calls Tryz.prog 12 #[.string text] w (DecPost (readO text.data.toList) w) := by
  have k0 := Keeps.alloc (fun _ => False) w (.cells #[.bool false, .int .i64 0, .int .i64 0, .slice none 0 0] 34)
  have hg0 := hg.kept k0
  have HR := hid (read_any text (w.alloc (.cells #[.bool false, .int .i64 0, .int .i64 0, .slice none 0 0] 34)) hts hg0.zero hg0.errs hg0.turns)
  have HG := hid hg0
  have HD : Hid (ResZ (w.alloc (.cells #[.bool false, .int .i64 0, .int .i64 0, .slice none 0 0] 34)) w.heap.size) := heap_new w _
  have HK := hid k0
  generalize readO text.data.toList = res at *
  obtain ⟨W, hW⟩ : ∃ W, W = w.alloc (.cells #[.bool false, .int .i64 0, .int .i64 0, .slice none 0 0] 34) := ⟨_, rfl⟩
  rw [← hW] at HR HG HD HK
  have HW := hid hW
  have HZ : Hid (w.heap.size < W.heap.size) := (Array.getElem?_eq_some_iff.1 HD.out).1
  clear hts hg hg0 k0 hW
  go_enter Tryz.func12, Tryz.ntmps12
  go_wp2_with fail
  rw [← HW.out]
  refine HR.out.mono ?_
  clear HR
  rcases res with _ | p | s
  · rintro e w2 ⟨⟨v, rfl, b, t, u, rfl, hb, hc, hs⟩, k2⟩
    obtain ⟨⟨a, h1, -, -⟩, -, -⟩ := HG.out
    rw [h1] at hs
    simp only [Option.some.injEq, Value.iface.injEq] at hs
    obtain ⟨rfl, rfl⟩ := hs
    have k3 : Keeps (fun _ => False) w2 (w2.alloc (.cells #[.bool false, .int .i64 0, .int .i64 0, .slice none 0 0] 34)) := (Keeps.refl _ _).al _
    have hd3 := (HD.out.kept k2 (fun h => h)).kept k3 (fun h => h)
    obtain ⟨a0, a1, a2, a3, b0, b1, b2, b3, s0, s1, s2, s3⟩ := hd3.facts
    have g0 := k3.cell (k2.cell h1 (fun h => h)) (fun h => h)
    have HI := hid (is_sum b a (w2.alloc (.cells #[.bool false, .int .i64 0, .int .i64 0, .slice none 0 0] 34)) (k3.cell (cell_of_heap hc 1) (fun h => h)))
    have HK3 := hid ((HK.out.tr k2 (fun _ h => h)).tr k3 (fun _ h => h))
    clear k3 hd3 k2 h1 hc hb
    unfold strZ
    go_wp2_with (go_at_call 21; go_must (refine HI.out.mono ?_; rintro e w3 ⟨rfl, rfl⟩))
    refine bodyPost_ret (v := .tuple #[strZ, .int .i64 0, .int .i64 7]) ?_ rfl ?_
    · unfold strZ
      rw [results_cell_two rfl]
      go_simp
    · exact ⟨rfl, HK3.out⟩
  · rintro e w2 ⟨⟨v, rfl, b, t, u, g, rfl, hb, hc, hn, hs⟩, k2⟩
    obtain ⟨⟨a, h1, h2, h3⟩, -, -⟩ := HG.out
    obtain ⟨c, c1, c2, c3⟩ := h3 g hn
    rw [c1] at hs
    simp only [Option.some.injEq, Value.iface.injEq] at hs
    obtain ⟨rfl, rfl⟩ := hs
    have k3 : Keeps (fun _ => False) w2 (w2.alloc (.cells #[.bool false, .int .i64 0, .int .i64 0, .slice none 0 0] 34)) := (Keeps.refl _ _).al _
    have hd3 := (HD.out.kept k2 (fun h => h)).kept k3 (fun h => h)
    have g0 := k3.cell (k2.cell h1 (fun h => h)) (fun h => h)
    obtain ⟨ca, ta, d1⟩ := cells_kept (cells_kept c3 k2) k3
    obtain ⟨cb, tb, d2⟩ := cells_kept (cells_kept h2 k2) k3
    have hc3 := (k3.block b (Array.getElem?_eq_some_iff.1 hc).1 (fun h => h)).trans hc
    have HI := hid (is_not_sum b a c ca cb ta tb (w2.alloc (.cells #[.bool false, .int .i64 0, .int .i64 0, .slice none 0 0] 34)) (cell_of_heap hc3 1) c2 d1 d2)
    have HP := hid (placeOf_any b p _ (w2.alloc (.cells #[.bool false, .int .i64 0, .int .i64 0, .slice none 0 0] 34)) ((HG.out.kept k2).kept k3) hc3)
    have HD3 := hid hd3
    have HK3 := hid ((HK.out.tr k2 (fun _ h => h)).tr k3 (fun _ h => h))
    clear k3 hd3 k2 h1 h2 h3 hc hb c1 c2 c3 d1 d2 hc3
    unfold strZ
    go_wp2_with (first
      | (go_at_call 21; go_must (refine HI.out.mono ?_; rintro e w3 ⟨rfl, rfl⟩))
      | (go_at_call 22; go_must (refine HP.out.mono ?_; rintro e w4 ⟨rfl, k4⟩; obtain ⟨a0, a1, a2, a3, b0, b1, b2, b3, s0, s1, s2, s3⟩ := (HD3.out.kept k4 (fun h => h)).facts; have HK4 := hid (HK3.out.tr k4 (fun _ h => h)); clear k4)))
    refine bodyPost_ret (v := .tuple #[strZ, .int .i64 (p : Nat), .int .i64 6]) ?_ rfl ?_
    · unfold strZ
      rw [results_cell_two rfl]
      go_simp
    · exact ⟨rfl, HK4.out⟩
  · rintro e w2 ⟨⟨oa, cap, rfl, row, own2⟩, k2⟩
    have HOW : Hid (∀ g, (Value.slice oa 0 cap).ownBlock = some g → w.heap.size ≤ g) := fun g hg => Nat.le_trans (Nat.le_of_lt HZ.out) (own2 g ((own_len oa _ 0 cap).trans hg))
    obtain ⟨X, hX⟩ : ∃ X, X = w2.alloc (.cells #[.bool s.full, .int .i64 (s.a : Nat), .int .i64 (s.b : Nat), .slice oa s.recs.length cap] 34) := ⟨_, rfl⟩
    have k3 : Keeps (fun _ => False) w2 (w2.alloc (.cells #[.bool s.full, .int .i64 (s.a : Nat), .int .i64 (s.b : Nat), .slice oa s.recs.length cap] 34)) := (Keeps.refl _ _).al _
    have hd3 := (HD.out.kept k2 (fun h => h)).kept k3 (fun h => h)
    have HD3 := hid hd3
    have HRW := hid (row.kept k3 (fun _ _ h => h))
    have HK3 := hid ((HK.out.tr k2 (fun _ h => h)).tr k3 (fun _ h => h))
    obtain ⟨a0, a1, a2, a3, b0, b1, b2, b3, -, -, -, -⟩ := hd3.facts
    clear hX X k3 hd3 row k2 own2
    generalize hlen : s.recs.length = len at *
    go_wp2
    refine bodyPost_ret (v := .tuple #[.agg #[.bool s.full, .int .i64 (s.a : Nat), .int .i64 (s.b : Nat), .slice oa len cap], .int .i64 0, .int .i64 0]) ?_ rfl ?_
    · rw [results_cell_two rfl]
      go_simp
    · refine ⟨⟨oa, cap, by rw [hlen], ?_, fun g hg => HOW.out g ((own_len oa 0 _ cap).trans hg)⟩, HK3.out.trans (four_set _ w.heap.size _ _ _ _) (fun k hk e => by have e' : k = w.heap.size := e; omega)⟩
      rw [hlen]
      exact HRW.out.kept (four_set _ w.heap.size _ _ _ _) (fun i hi e => (HRW.out.typeIs hi).ne (e' := 34) (by decide) ⟨_, (show i = w.heap.size from e) ▸ HD3.out⟩)

end Go.Proofs.YtkpaiaddikpdoaaGreatDoor

/- annalsref: a scan: block, whole; Decode of a text whose check is another. -/

namespace Go.Proofs.YtkpaiaddikpdoaaGreatDoor

open Go.RowKit Go.Shelf

attribute [local go_sem] Oper.semAt_some

theorem scBlock_any (sb : Nat) (text : ByteArray) (l : List UInt8) (w : World) (h : ScL w sb text l) (hts : text.size ≤ 1000000000000) :
    Calls Tryz.prog 26 #[.pointer (some ⟨sb, 0, none⟩)] w (ScBlk sb text l w) := by
  rcases hb : bndR 0 4 l with k | ⟨n, r⟩
  · refine (scBlock_none sb text l w h hts (fun n r e => by rw [hb] at e; cases e)).mono ?_
    rintro e w' ⟨rfl, h1, hk⟩
    rw [hb] at h1
    have hk2 := bndR_bad hb
    subst hk2
    have e : blockR l = .bad l.length := by unfold blockR; rw [hb, Rd.bind_bad]
    exact ⟨_, [], .bad l.length, rfl, MadeX.nil hk, h1, by simp, by rw [e]⟩
  · by_cases hn : n = 0
    · subst hn
      refine (scBlock_none sb text l w h hts (fun n r' e => by rw [hb] at e; cases e; rfl)).mono ?_
      rintro e w' ⟨rfl, h1, hk⟩
      rw [hb] at h1
      have e : blockR l = .ok [] r := by unfold blockR; rw [hb, Rd.bind_ok, if_pos rfl]
      exact ⟨_, [], .ok () r, rfl, MadeX.nil hk, h1, by simp, by rw [e]; exact ⟨rfl, rfl⟩⟩
    · exact scBlock_some sb text l r n w h hts hb hn

set_option maxRecDepth 100000 in
set_option maxHeartbeats 2000000 in
theorem refDecode_short (text : ByteArray) (w : World) (h4 : text.size < 4) :
    Calls Tryz.prog 13 #[.string text] w (DecPost .sum w) := by
  have hneg : (text.size : Int) - 4 < 0 := by omega
  have hge : -4 ≤ (text.size : Int) - 4 := by omega
  clear h4
  go_enter Tryz.func13, Tryz.ntmps13
  go_wp2
  go_region
  go_wp2
  refine bodyPost_ret (v := .tuple #[strZ, .int .i64 0, .int .i64 7]) ?_ rfl ?_
  · unfold strZ
    rw [results_cell_two rfl]
    go_simp
  · exact ⟨rfl, (((Keeps.refl (fun _ => False) w).al _).al _).dr⟩

set_option maxRecDepth 100000 in
set_option maxHeartbeats 2000000 in
theorem refDecode_sum (text : ByteArray) (w : World) (h4 : 4 ≤ text.size) (hts : text.size ≤ 10000000000) (hne : text.data.toList.drop (text.data.toList.length - 4) ≠ checkL (text.data.toList.take (text.data.toList.length - 4))) :
    Calls Tryz.prog 13 #[.string text] w (DecPost .sum w) := by
  have hlen : text.data.toList.length = text.size := rfl
  rw [hlen] at hne
  obtain ⟨n, hn⟩ : ∃ n : Nat, text.size = n + 4 := ⟨text.size - 4, by omega⟩
  have hsub : (text.size : Int) - 4 = (n : Int) := by omega
  have hck : ∀ W, Calls Tryz.prog 23 #[.string (text.extract 0 n)] W fun e w' => e = .returned (.string (ofL (checkL (text.data.toList.take n)))) ∧ Keeps (fun _ => False) W w' := fun W => by
    have := refCheck_any (text.extract 0 n) W (by rw [ByteArray.size_extract]; unfold maxLen; omega)
    rwa [extract_take text n] at this
  have hnb : ((text.extract n text.size).toList == (ofL (checkL (text.data.toList.take n))).toList) = false := (Lib.bytes_beq_false_iff _ _).2 (fun e => hne (by
    have := congrArg (fun x : ByteArray => x.data.toList) e
    rw [extract_drop text n] at this
    rw [show text.size - 4 = n by omega]
    exact this))
  have HC := hid hck
  have hnI : (n : Int) ≤ 10000000000 := by omega
  have hnS : (n : Int) ≤ text.size := by omega
  clear hck hne hts h4 hlen hn
  generalize ofL (checkL (text.data.toList.take n)) = ck at *
  go_enter Tryz.func13, Tryz.ntmps13
  go_wp2
  go_region_held3 (fun _ => True) (go_keep) (first | (go_at_call 23; refine (HC.out _).mono ?_; rintro e w2 ⟨rfl, k2⟩; have D2 : ResZ w2 w.heap.size := (k2.block w.heap.size (by simp; omega) (fun h => h)).trans (((Keeps.alloc (fun _ => False) (w.alloc (.cells #[.bool false, .int .i64 0, .int .i64 0, .slice none 0 0] 34)) (.cells #[.bool false, .int .i64 0, .int .i64 0, .slice none 0 0] 34)).block w.heap.size (by simp) (fun h => h)).trans (heap_new w _)); have E2 : ResZ w2 (w.heap.size + 1) := (k2.block (w.heap.size + 1) (by simp) (fun h => h)).trans (by have := heap_new (w.alloc (.cells #[.bool false, .int .i64 0, .int .i64 0, .slice none 0 0] 34)) (.cells #[.bool false, .int .i64 0, .int .i64 0, .slice none 0 0] 34); rw [World.size_alloc] at this; exact this); obtain ⟨a0, a1, a2, a3, b0, b1, b2, b3, s0, s1, s2, s3⟩ := D2.facts; obtain ⟨x0, x1, x2, x3, -, -, -, -, -, -, -, -⟩ := E2.facts; have HK2 : Hid (Keeps (fun _ => False) w w2) := ((((Keeps.refl (fun _ => False) w).al _).al _).dr).tr k2 (fun _ h => h); clear k2 D2 E2))
  go_wp2
  refine bodyPost_ret (v := .tuple #[strZ, .int .i64 0, .int .i64 7]) ?_ rfl ?_
  · unfold strZ
    rw [results_cell_two rfl]
    go_simp
  · exact ⟨rfl, HK2.out⟩

end Go.Proofs.YtkpaiaddikpdoaaGreatDoor

/- annalsref: Decode: what its loops keep. -/

namespace Go.Proofs.YtkpaiaddikpdoaaGreatDoor

open Go.RowKit Go.Shelf

/-- the scan at sb, the stream at xb; the result and none lie empty -/
structure DcAt (w : World) (sb xb : Nat) (tx : ByteArray) (full : Bool) (a b : Nat) (v : Value) (acc : List RecB) (s : Rd Unit) (wr : World) : Prop where
  scan : ScS wr sb tx s
  top : wr.heap[xb]? = some (.cells #[.bool full, .int .i64 (a : Nat), .int .i64 (b : Nat), v] 34 (0, 0))
  row : Row wr 31 3 v acc.length (recCs acc)
  own : ∀ g, v.ownBlock = some g → w.heap.size ≤ g
  res : ResZ wr w.heap.size
  none_ : ResZ wr (w.heap.size + 1)
  keep : Keeps (fun _ => False) w wr
  sbw : w.heap.size + 2 ≤ sb
  xbw : w.heap.size + 2 ≤ xb

theorem ScS.typeIs {w : World} {sb : Nat} {tx : ByteArray} {s : Rd Unit} (h : ScS w sb tx s) : TypeIs w sb 68 := by
  obtain ⟨at_, -, hA⟩ := h.facts
  exact ⟨_, hA⟩

theorem DcAt.ne {w : World} {sb xb : Nat} {tx : ByteArray} {full : Bool} {a b : Nat} {v : Value} {acc : List RecB} {s : Rd Unit} {wr : World} (h : DcAt w sb xb tx full a b v acc s wr) : xb ≠ sb := fun e =>
  TypeIs.ne (w := wr) (k := sb) (e := 68) (e' := 34) h.scan.typeIs (by decide) (e ▸ ⟨_, h.top⟩)

/-- a call of the scan's -/
theorem DcAt.call {w : World} {sb xb : Nat} {tx : ByteArray} {full : Bool} {a b : Nat} {v : Value} {acc : List RecB} {s s' : Rd Unit} {wr wq : World} (h : DcAt w sb xb tx full a b v acc s wr) (hk : Keeps (· = sb) wr wq) (hs : ScS wq sb tx s') : DcAt w sb xb tx full a b v acc s' wq := by
  have h1 := h.sbw
  have h2 := h.ne
  refine ⟨hs, (hk.block xb (Array.getElem?_eq_some_iff.1 h.top).1 h2).trans h.top, h.row.kept hk (fun g hg e => (h.row.typeIs hg).ne (e' := 68) (by decide) ((show g = sb from e) ▸ h.scan.typeIs)), h.own, h.res.kept hk (fun e => by have e' : w.heap.size = sb := e; omega), h.none_.kept hk (fun e => by have e' : w.heap.size + 1 = sb := e; omega), h.keep.trans hk (fun k hk e => by have e' : k = sb := e; omega), h.sbw, h.xbw⟩

theorem DcAt.quiet {w : World} {sb xb : Nat} {tx : ByteArray} {full : Bool} {a b : Nat} {v : Value} {acc : List RecB} {s : Rd Unit} {wr wq : World} (h : DcAt w sb xb tx full a b v acc s wr) (hk : Keeps (fun _ => False) wr wq) : DcAt w sb xb tx full a b v acc s wq :=
  ⟨h.scan.kept hk (fun h => h), (hk.block xb (Array.getElem?_eq_some_iff.1 h.top).1 (fun h => h)).trans h.top, h.row.kept hk (fun _ _ h => h), h.own, h.res.kept hk (fun h => h), h.none_.kept hk (fun h => h), h.keep.tr hk (fun _ h => h), h.sbw, h.xbw⟩

/-- a store into the stream -/
theorem DcAt.put {w : World} {sb xb : Nat} {tx : ByteArray} {full full' : Bool} {a b a' b' : Nat} {v : Value} {acc : List RecB} {s : Rd Unit} {wr wq : World} (h : DcAt w sb xb tx full a b v acc s wr) (hk : Keeps (· = xb) wr wq) (ht : wq.heap[xb]? = some (.cells #[.bool full', .int .i64 (a' : Nat), .int .i64 (b' : Nat), v] 34 (0, 0))) : DcAt w sb xb tx full' a' b' v acc s wq := by
  have h1 := h.xbw
  have h2 := h.ne
  refine ⟨h.scan.kept hk (fun e => h2 (show sb = xb from e).symm), ht, h.row.kept hk (fun g hg e => (h.row.typeIs hg).ne (e' := 34) (by decide) ((show g = xb from e) ▸ ⟨_, h.top⟩)), h.own, h.res.kept hk (fun e => by have e' : w.heap.size = xb := e; omega), h.none_.kept hk (fun e => by have e' : w.heap.size + 1 = xb := e; omega), h.keep.trans hk (fun k hk e => by have e' : k = xb := e; omega), h.sbw, h.xbw⟩

theorem DcAt.putFull {w : World} {sb xb : Nat} {tx : ByteArray} {full : Bool} {a b : Nat} {v : Value} {acc : List RecB} {s : Rd Unit} {wr : World} (h : DcAt w sb xb tx full a b v acc s wr) (f : Bool) : DcAt w sb xb tx f a b v acc s (wr.setCell ⟨xb, 0, none⟩ (.bool f)) :=
  h.put (Keeps.setCell wr ⟨xb, 0, none⟩ _) ((heap_setCell_same h.top _).trans (by simp))

theorem DcAt.putA {w : World} {sb xb : Nat} {tx : ByteArray} {full : Bool} {a b : Nat} {v : Value} {acc : List RecB} {s : Rd Unit} {wr : World} (h : DcAt w sb xb tx full a b v acc s wr) (n : Nat) : DcAt w sb xb tx full n b v acc s (wr.setCell ⟨xb, 1, none⟩ (.int .i64 (n : Nat))) :=
  h.put (Keeps.setCell wr ⟨xb, 1, none⟩ _) ((heap_setCell_same h.top _).trans (by simp))

theorem DcAt.putB {w : World} {sb xb : Nat} {tx : ByteArray} {full : Bool} {a b : Nat} {v : Value} {acc : List RecB} {s : Rd Unit} {wr : World} (h : DcAt w sb xb tx full a b v acc s wr) (n : Nat) : DcAt w sb xb tx full a n v acc s (wr.setCell ⟨xb, 2, none⟩ (.int .i64 (n : Nat))) :=
  h.put (Keeps.setCell wr ⟨xb, 2, none⟩ _) ((heap_setCell_same h.top _).trans (by simp))

/-- one record more -/
theorem DcAt.push {w : World} {sb xb : Nat} {tx : ByteArray} {full : Bool} {a b : Nat} {v v' : Value} {acc : List RecB} {x : RecB} {s : Rd Unit} {wr W1 w4 : World} (h : DcAt w sb xb tx full a b v acc s wr) (hW : Keeps (fun _ => False) wr W1) (hr : Row w4 31 3 v' (acc.length + 1) (recCs acc ++ x.cells)) (hg : W1.grownBy w4 v.ownBlock) (ho : v'.ownBlock = v.ownBlock ∨ v'.ownBlock = some W1.heap.size) :
    w4.heap[xb]? = some (.cells #[.bool full, .int .i64 (a : Nat), .int .i64 (b : Nat), v] 34 (0, 0)) ∧ DcAt w sb xb tx full a b v' (acc ++ [x]) s (w4.setCell ⟨xb, 3, none⟩ v') := by
  have h0 := h.quiet hW
  have kg := Keeps.grown hg
  have hty : ∀ k, some k = v.ownBlock → TypeIs W1 k 31 := fun k e => h0.row.typeIs e.symm
  have h1 := h.sbw
  have h2 := h.xbw
  have hz := h0.keep.size
  have top4 : w4.heap[xb]? = some (.cells #[.bool full, .int .i64 (a : Nat), .int .i64 (b : Nat), v] 34 (0, 0)) := (kg.block xb (Array.getElem?_eq_some_iff.1 h0.top).1 (fun e => (hty xb e).ne (e' := 34) (by decide) ⟨_, h0.top⟩)).trans h0.top
  have ks := Keeps.setCell w4 ⟨xb, 3, none⟩ v'
  refine ⟨top4, ?_⟩
  refine ⟨(h0.scan.kept kg (fun e => (hty sb e).ne (e' := 68) (by decide) h0.scan.typeIs)).kept ks (fun e => h0.ne (show sb = xb from e).symm), (heap_setCell_same top4 _).trans (by simp), ?_, fun g hgv => ?_, ?_, ?_, ?_, h1, h2⟩
  · have e : recCs (acc ++ [x]) = recCs acc ++ x.cells := by simp [recCs]
    rw [e, List.length_append, List.length_singleton]
    exact hr.kept ks (fun g hgv e => (hr.typeIs hgv).ne (e' := 34) (by decide) ((show g = xb from e) ▸ ⟨_, top4⟩))
  · rcases ho with e | e
    · exact h.own g (e ▸ hgv)
    · rw [hgv] at e
      have e' : g = W1.heap.size := by simpa using e
      omega
  · refine (h0.res.kept kg (fun e => (hty _ e).ne (e' := 34) (by decide) ⟨_, h0.res⟩)).kept ks (fun e => ?_)
    have e' : w.heap.size = xb := e
    omega
  · refine (h0.none_.kept kg (fun e => (hty _ e).ne (e' := 34) (by decide) ⟨_, h0.none_⟩)).kept ks (fun e => ?_)
    have e' : w.heap.size + 1 = xb := e
    omega
  · refine (h0.keep.trans kg (fun k hk e => ?_)).trans ks (fun k hk e => ?_)
    · have := h0.own k e.symm
      omega
    · have e' : k = xb := e
      omega

/-- how much the loop has before it -/
def scM (tx : ByteArray) (sb : Nat) (z : Value) (w : World) : Nat := match z with
  | .bool true => match w.cell? ⟨sb, 2, none⟩ with
    | some (.int _ b) => if b < 0 then tx.size + 1 - posOf w sb else 0
    | _ => 0
  | _ => 0

theorem scM_ok {tx : ByteArray} {sb : Nat} {w : World} {l : List UInt8} (h : ScL w sb tx l) : scM tx sb (.bool true) w = l.length + 1 := by
  obtain ⟨-, c1, c2, -, -⟩ := h.2.facts
  have hl := h.1.len
  unfold scM posOf
  simp only [c1, c2]
  rw [if_pos (by omega)]
  simp only [Int.toNat_natCast]
  omega

theorem scM_less {tx : ByteArray} {sb : Nat} {w : World} {l : List UInt8} {s : Rd Unit} {more : Bool} (h : ScS w sb tx s) (hs : ∀ r, s = .ok () r → r.length < l.length) : scM tx sb (.bool more) w < l.length + 1 := by
  cases more with
  | false => exact Nat.succ_pos _
  | true =>
    rcases s with k | ⟨u, r⟩
    · obtain ⟨at_, -, hA⟩ := h.facts
      obtain ⟨-, -, c2, -, -⟩ := hA.facts
      unfold scM
      simp only [c2]
      rw [if_neg (fun h => by have h' : ((tx.size - k : Nat) : Int) < 0 := h; omega)]
      omega
    · rw [scM_ok (l := r) h]
      have := hs r rfl
      omega

theorem kindS_ok {l x : List UInt8} {s1 : Rd Unit} {kk : Bool} (h : takeS 4 (.ok () l) = (x, s1)) (hx : x = kindL kk) : ∃ l1, kindR l = .ok kk l1 ∧ s1 = .ok () l1 := by
  rcases takeS_ok h with ⟨r, e, rfl⟩ | ⟨k, e, -, rfl⟩
  · refine ⟨r, ?_, rfl⟩
    unfold kindR
    rw [e, Rd.bind_ok, hx]
    cases kk with
    | true => rw [if_pos rfl]
    | false => rw [if_neg (by decide), if_pos rfl]
  · cases kk <;> cases hx

theorem kindS_bad {l x : List UInt8} {s1 : Rd Unit} (h : takeS 4 (.ok () l) = (x, s1)) (h1 : x ≠ kindL true) (h2 : x ≠ kindL false) : kindR l = .bad l.length := by
  unfold kindR
  rcases takeS_ok h with ⟨r, e, -⟩ | ⟨k, e, -, -⟩
  · rw [e, Rd.bind_ok, if_neg h1, if_neg h2]
  · rw [e, Rd.bind_bad]
    unfold takeR at e
    split at e
    · cases e
    · cases e
      rfl

/-- between two blocks, if the head was right -/
def LpS (F : Nat) (s3 : Rd Unit) (more : Bool) (acc : List RecB) (s : Rd Unit) : Prop := match s3 with
  | .inl j => s = .bad j ∧ acc = []
  | .inr (_, l3) => DMid (blocksR F [] l3) l3.length more acc s

theorem LpS.zero {F : Nat} {s3 : Rd Unit} (h : ∀ l3, s3 = .ok () l3 → l3.length < F) : LpS F s3 true [] s3 := by
  rcases s3 with j | ⟨u, l3⟩
  · exact ⟨rfl, rfl⟩
  · exact DMid.zero (h l3 rfl)

theorem LpS.next {F : Nat} {tx : ByteArray} {s3 s : Rd Unit} {acc x : List RecB} {l : List UInt8} (h : LpS F s3 true acc (.ok () l)) (hp : Place tx l) (hb : BlkS (blockR l) x s) : LpS F s3 (decide (0 < x.length)) (acc ++ x) s := by
  rcases s3 with j | ⟨u, l3⟩
  · cases h.1
  · exact DMid.next h hp hb

theorem LpS.few {F N : Nat} {s3 s : Rd Unit} {more : Bool} {acc : List RecB} (h : LpS F s3 more acc s) (h3 : ∀ l3, s3 = .ok () l3 → l3.length ≤ N) : acc.length ≤ 4 * N + 4 := by
  rcases s3 with j | ⟨u, l3⟩
  · rw [h.2]; exact Nat.zero_le _
  · have := h3 l3 rfl
    rcases s with k | ⟨u, l⟩
    · have h2 := h.2; omega
    · have h2 := h.1; omega

theorem BlkS.short {tx : ByteArray} {l : List UInt8} {x : List RecB} {s : Rd Unit} (hp : Place tx l) (h : BlkS (blockR l) x s) : ∀ r, s = .ok () r → r.length < l.length := by
  intro r e
  obtain ⟨-, h⟩ := h
  rcases hb : blockR l with k | ⟨y, r'⟩
  · rw [hb] at h; rw [h] at e; cases e
  · rw [hb] at h
    have e2 := h.1
    rw [e] at e2
    cases e2
    exact (blockR_fits hp hb).2.1

/-- what it all comes to -/
theorem coreS_end {l l1 : List UInt8} {kk more : Bool} {a b m : Nat} {s2 s3 s4 s5 : Rd Unit} {acc : List RecB} (hk : kindR l = .ok kk l1) (h2 : numS 0 34359738367 (.ok () l1) = (a, s2)) (h3 : numS 0 34359738367 s2 = (b, s3))
    (h4 : LpS (l.length + 1) s3 more acc s4) (h6 : more = true → ∃ j, s4 = .bad j) (h5 : numS acc.length acc.length s4 = (m, s5)) :
    (∀ j, endS s5 = .bad j → coreR l = .bad j) ∧ (∀ r, endS s5 = .ok () r → ∃ X : Str, coreR l = .ok X [] ∧ X.full = kk ∧ X.a = a ∧ X.b = b ∧ acc = X.recs.map recB) := by
  have h := coreS_eq (more := more) hk h2 h3 (s4 := s4) (acc := acc) (by
    rcases s3 with j | ⟨u, l3⟩
    · exact h4.1
    · exact ⟨h4, h6⟩) h5
  rcases hc : coreR l with j | ⟨X, r⟩
  · rw [hc] at h
    refine ⟨fun j' e => ?_, fun r e => ?_⟩
    · rw [h] at e
      cases e
      rfl
    · rw [h] at e
      cases e
  · rw [hc] at h
    obtain ⟨q1, rfl, q2, q3, q4, q5⟩ := h
    refine ⟨fun j' e => ?_, fun r e => ⟨X, rfl, q2, q3, q4, q5⟩⟩
    rw [q1] at e
    cases e

end Go.Proofs.YtkpaiaddikpdoaaGreatDoor
