/-
  The document's May and Address; numbers are of their kinds. Over this seat's translation; no condition. (Written by gen_sp.py.)
-/
import Derived.Test.YtphnpahjofacfabSpg
namespace Go.Proofs.Ytphnpahjofacfab
open Go.RowKit Go.Sort
set_option linter.unusedSimpArgs false
set_option linter.unusedVariables false
set_option maxRecDepth 20000

def mayS (n : Nat) (i line : Int) : Bool := decide (n = 256) && oneS i && lineB line
theorem mayS_iff (n : Nat) (i line : Int) : mayS n i line = true ↔ n = 256 ∧ (0 ≤ i ∧ i < 64) ∧ (0 ≤ line ∧ line < 256) := by
  unfold mayS oneS lineB
  simp only [Bool.and_eq_true, decide_eq_true_eq, and_assoc]
attribute [local irreducible] wpList
theorem run_alloc_bs (o : Oper) (h : o.op = .alloc 26) (ρ : Operand → Value) (w : World) : (execOp ρ o).run Try.prog w = .ok (.value (ptrTo w.heap.size)) (w.alloc (.cells #[.int .u8 0, .bool false] 26)) := by
  unfold execOp
  rw [h]
  kernel_rfl
end Go.Proofs.Ytphnpahjofacfab
