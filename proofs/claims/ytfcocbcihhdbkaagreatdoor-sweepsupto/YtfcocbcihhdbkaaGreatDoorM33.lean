import Derived.Test.YtfcocbcihhdbkaaGreatDoorM32
import Derived.Test.YtfcocbcihhdbkaaGreatDoorRows
import Derived.ProofKit
import Derived.OpenShut
import Derived.ShutString
import Derived.ChangeOld
import Derived.Below
import Derived.Deep.Slices
import Derived.Deep.DeepHandedRow
import Derived.Deep.DeepWitnessRowRef
import Derived.LaidLaws
import Derived.LaidHandle
import Derived.Lib.LaidTab

/- A world in which the listed variables hold what the program's text lays there; a script that came in. -/

namespace Go.Proofs.YtfcocbcihhdbkaaGreatDoor

open Go.ChangeShapes Go.WideShapes Go.ChangeAt Go.RowKit Go.Deep

theorem Tryz.own : ownKnob Tryz.prog.godebug = none := by kernel_rfl

theorem Tryz.laidOut : laidOutB Tryz.prog = true := by kernel_rfl

theorem Tryz.cellsOp : Tryz.prog.cellsOf 72 = 11 := by kernel_rfl

theorem Tryz.cellsStream : Tryz.prog.cellsOf 37 = 4 := by kernel_rfl

theorem Tryz.cellsInt : Tryz.prog.cellsOf 3 = 1 := by kernel_rfl

theorem Tryz.cellsBool : Tryz.prog.cellsOf 4 = 1 := by kernel_rfl

theorem Tryz.cellsString : Tryz.prog.cellsOf 9 = 1 := by kernel_rfl

theorem Tryz.cellsStrings : Tryz.prog.cellsOf 26 = 1 := by kernel_rfl

theorem Tryz.cellsRecords : Tryz.prog.cellsOf 35 = 1 := by kernel_rfl

/-- an error's text -/
def sentB : DataW Unit → ByteArray
  | .iface _ (.ptr (.agg [.lit (.string bs)])) => ⟨bs.toArray⟩
  | _ => ⟨#[]⟩

/-- a table's numbers -/
def tabV : DataW Unit → List Value
  | .agg l => l.map fun
    | .lit (.int k n) => .int k n
    | _ => .int .u32 0
  | _ => []

def putVar (P : Program) (h : Array Obj) (name : String) (cs : Array Value) : Array Obj := match P.globalNamed name with
  | some g => h.modify g fun
    | .cells _ t frozen => .cells cs t frozen
    | o => o
  | none => h

/-- the settled world, with a block for each error, the variables laid -/
def laidWorld (P : Program) (laid : List (String × DataW Unit)) (turns : DataW Unit) (os : Os) : World :=
  let N := (World.settled P os).heap.size
  let L := laid.drop 2
  let w0 := World.holding P os ⟨(L.map fun x => Obj.cells #[.string (sentB x.2)] 365).toArray, #[], []⟩
  let h0 := putVar P w0.heap "errors.errorType" #[.iface 286 (.agg #[.pointer (some ⟨16, 154, none⟩)])]
  let h1 := putVar P h0 "annals/stream.turns" (tabV turns).toArray
  { w0 with heap := L.zipIdx.foldl (fun h x => putVar P h x.1.1 #[.iface 347 (.pointer (some ⟨N + x.2, 0, none⟩))]) h1 }

theorem laid_met (os : Os) (args : Array Value) : laidMetH Tryz.prog Rows.worksUptoRow.laid ((laidWorld Tryz.prog Rows.worksUptoRow.laid Rows.laid_annals_stream_turns os).forCall (fun _ _ => 0) ⟨#[], args, []⟩).memory :=
  laidMetH_of_parts (laidMet_of_run' 8 (by kernel_rfl) (by kernel_rfl)) (by kernel_rfl)

theorem wf_i64 {n : Int} (h : (Lit.int .i64 n).wf = true) : -9223372036854775808 ≤ n ∧ n ≤ 9223372036854775807 := by
  have := bounds_i64 h
  omega

end Go.Proofs.YtfcocbcihhdbkaaGreatDoor
