/-
  Several texts in one: what is read and written by the functions on the way to the statements. Conditions stand in each theorem.
-/
import Derived.Test.YtbonamhinnhlnaaGreatDoorP04
import Derived.Test.YtbonamhinnhlnaaGreatDoorP05
namespace Go.Proofs.YtbonamhinnhlnaaGreatDoor
open Go.RowKit
set_option linter.unusedSimpArgs false
set_option linter.unusedVariables false
set_option maxRecDepth 20000

def crossV (m u : Int) : Bool := (m == 11) || ((u == 1) && ((m == 7) || (m == 8) || (m == 10)))
def goodW (op : Int) (rare nop : Bool) : Bool := !rare && (!nop || (op == 234)) && (op != 235)
def goodV (op : Int) : Bool := goodW op (isIn ⟨#[65, 76, 82, 32, 65, 78, 67, 32, 65, 78, 69, 32, 65, 82, 82, 32, 68, 67, 80, 32, 73, 83, 67, 32, 74, 65, 77, 32, 76, 65, 83, 32, 76, 65, 88, 32, 76, 88, 65, 32, 82, 76, 65, 32, 82, 82, 65, 32, 83, 65, 88, 32, 83, 66, 88, 32, 83, 72, 65, 32, 83, 72, 88, 32, 83, 72, 89, 32, 83, 76, 79, 32, 83, 82, 69, 32, 84, 65, 83, 32]⟩ (nameV op)) ((nameV op).toList == [78, 79, 80])
def useV (op : Int) : Int := useN (nameV op) (modeV op)
/-- An instruction's six cells. -/
def opC (nm : ByteArray) (m u c : Int) (x g : Bool) : Array Value := #[.string nm, .int .i64 m, .int .i64 u, .int .i64 c, .bool x, .bool g]
def decC (op : Int) : Array Value := opC (nameV op) (modeV op) (useV op) (cycV (modeV op) (useV op)) (crossV (modeV op) (useV op)) (goodV op)
theorem alloc_op (w : World) : (Instr.alloc 72 true (.tuple #[])).run Tryz.prog w = .ok (.pointer (some ⟨w.heap.size, 0, none⟩)) (w.alloc (.cells (opC ⟨#[]⟩ 0 0 0 false false) 72)) := by kernel_rfl
end Go.Proofs.YtbonamhinnhlnaaGreatDoor
