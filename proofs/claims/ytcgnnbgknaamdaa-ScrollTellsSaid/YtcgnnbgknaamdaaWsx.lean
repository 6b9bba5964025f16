/-
  How a scroll is made within a statement whose order is open. Over this seat's translation; numbers are of their kinds. (Written by gen_sc6.py.)
-/
import Derived.Test.YtcgnnbgknaamdaaWsc
import Derived.Test.YtcgnnbgknaamdaaWsw
import Derived.Test.YtcgnnbgknaamdaaReb
namespace Go.Proofs.Ytcgnnbgknaamdaa
open Go.RowKit
set_option linter.unusedSimpArgs false
set_option linter.unusedVariables false
set_option maxRecDepth 20000

theorem run_alloc_scr (o : Oper) (h : o.op = .alloc 24) (ρ : Operand → Value) (w : World) : (execOp ρ o).run Try.prog w = .ok (.value (ptrTo w.heap.size)) (w.alloc (.cells (scC sc0) 24)) := by
  unfold execOp
  simp only [h, Sem.run_bind, alloc_scr, Result.andThen_ok, Sem.run_pure]
  rfl
end Go.Proofs.Ytcgnnbgknaamdaa
