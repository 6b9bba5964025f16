/-
  A cell that is known (a package-level variable's) is read in a statement whose order is open, and in a plain one. No condition on the program.
-/
import Derived.Test.YtbonamhinnhlnaaDoorMem
namespace Go.Proofs.YtbonamhinnhlnaaDoor
open Go.RowKit Go.Sort
section
variable {P : Program} {ops : Array Oper} {rest : List Oper} {o : Oper} {a : Act} {w : World} {Q : Exit → Act → World → Prop}
theorem run_loadVar_known (w : World) (ad : Addr) (ty : TypeId) (v : Value) (hu' : (P.underlying ty).map aggB = some false) (hc : w.cell? ad = some v) :
    (loadVar ty ad).run P w = .ok v w := by
  obtain ⟨d, hu, hd⟩ : ∃ d, P.underlying ty = some d ∧ aggB d = false := by simpa using hu'
  have hagg : (isAgg ty).run P w = .ok false w := by
    unfold isAgg
    rw [Sem.run_bind, run_underlying hu w]
    cases d <;> simp_all [aggB]
  simp [loadVar, Sem.run_bind, hagg, hc]
theorem quiet_gload {K : Act → Prop} (ty : TypeId) (x : Operand) (ho : o.op = .load ty x) (ad : Addr) (hx : a.eval x = .pointer (some ad)) (v : Value) (hc : w.cell? ad = some v)
    (hu : (P.underlying ty).map aggB = some false) (h : K (a.put o.dst v)) : o.quiet P a (fun w' => ∃ p : Regrown, w' = Go.Sort.grow (redrawn w p.d) p.os) K :=
  ⟨v, fun w' hw' => by
    obtain ⟨p, rfl⟩ := hw'
    have hc' := ((below_regrown w p.d p.os).cell (World.block_lt_of_cell? w _ hc)).trans hc
    unfold Oper.quietAt execOp
    simp only [ho, hx, Instr.loadAt, Instr.sureAddr, Sem.run_bind, Sem.run_pure, Result.andThen_ok, run_loadVar_known _ ad ty v hu hc']
    exact ⟨rfl, rfl⟩, h⟩
theorem wpList_gload (hgd : Region.wanted o (yielded ops a.tmps) = true) (ty : TypeId) (x : Operand) (ho : o.op = .load ty x) (ad : Addr) (hx : a.eval x = .pointer (some ad)) (v : Value) (hc : w.cell? ad = some v)
    (hu : (P.underlying ty).map aggB = some false)
    (h : wpList P ops Q rest (a.put o.dst v) w) : wpList P ops Q (o :: rest) a w :=
  wpList_want' hgd fun _ hK => by
    unfold Oper.wp execOp
    simp only [ho, hx, Instr.loadAt, Instr.sureAddr, Sem.run_bind, Sem.run_pure, Result.andThen_ok, run_loadVar_known w ad ty v hu hc]
    exact hK _ _ h
end
end Go.Proofs.YtbonamhinnhlnaaDoor
