/-
  A scroll equals itself; two values are compared in a statement whose order is open. Over this seat's translation; no condition.
-/
import Derived.Test.YtcgnnbgknaamdaaWsa
import Derived.ChangeKeysEq
namespace Go.Proofs.Ytcgnnbgknaamdaa
open Go.RowKit Go.Sort
set_option linter.unusedSimpArgs false
set_option linter.unusedVariables false

set_option maxRecDepth 100000 in
set_option maxHeartbeats 2000000 in
theorem sc_eqi (s : Sc) (w : World) : (Op.equalIn 10000 24 (.agg (scC s)) (.agg (scC s))).run Try.prog w = .ok true w := by
  have u3 := Try.underlying5
  have a3 := Try.isAgg5
  have z3 := Try.sizeOf5
  have u2 := Try.underlying22
  have a2 := Try.isAgg22
  have z2 := Try.sizeOf22
  have u4 := Try.underlying4
  rw [show (10000 : Nat) = 9999 + 1 from rfl, run_equalIn_struct w 9999 24 _ _ (by kernel_rfl) (by kernel_rfl)]
  simp only [Program.fieldsOf, Try.underlying24]
  unfold scC
  simp only [Op.eqFields]
  go_simp
theorem sc_eql (c : Sc) (w : World) : (binOp .eql 24 (.agg (scC c)) (.agg (scC c))).run Try.prog w = .ok (.bool true) w := by
  rw [run_eql_struct, sc_eqi]; rfl
theorem sc_neq (c : Sc) (w : World) : (binOp .neq 24 (.agg (scC c)) (.agg (scC c))).run Try.prog w = .ok (.bool false) w := by
  rw [run_neq_struct, sc_eqi]; rfl
theorem sc_neqG (c : Sc) (x y : Operand) (w : World) : (do eqGuard .neq 24 x y (.agg (scC c)) (.agg (scC c)); binOp .neq 24 (.agg (scC c)) (.agg (scC c)) : Sem Value).run Try.prog w = .ok (.bool false) w := by
  have e := run_eqGuard_agg (P := Try.prog) (w := w) .neq 24 x y (scC c) (scC c) (by kernel_rfl)
  simp only [Sem.run_bind, e, Result.andThen_ok, sc_neq]
theorem sc_eqlG (c : Sc) (x y : Operand) (w : World) : (do eqGuard .eql 24 x y (.agg (scC c)) (.agg (scC c)); binOp .eql 24 (.agg (scC c)) (.agg (scC c)) : Sem Value).run Try.prog w = .ok (.bool true) w := by
  have e := run_eqGuard_agg (P := Try.prog) (w := w) .eql 24 x y (scC c) (scC c) (by kernel_rfl)
  simp only [Sem.run_bind, e, Result.andThen_ok, sc_eql]
section
variable {P : Program} {ops : Array Oper} {rest : List Oper} {o : Oper} {a : Act} {w : World} {Q : Exit → Act → World → Prop}
theorem quiet_sbin {C : World → Prop} {K : Act → Prop} (b : BinOp) (T : TypeId) (x y : Operand) (T2 : TypeId) (ho : o.op = .binOp b T x y T2) (v u r : Value) (hx : a.eval x = v) (hy : a.eval y = u)
    (hr : ∀ w : World, (do eqGuard b T x y v u; binOp b T v u : Sem Value).run P w = .ok r w) (h : K (a.put o.dst r)) : o.quiet P a C K :=
  ⟨r, fun w' hw' => by
    unfold Oper.quietAt execOp
    simp only [ho, hx, hy]
    rw [Sem.run_bind, hr]
    exact ⟨rfl, rfl⟩, h⟩
theorem gate_sbin {C : World → Prop} {K : Act → Prop} (b : BinOp) (T : TypeId) (x y : Operand) (T2 : TypeId) (_ : o.op = .binOp b T x y T2) (h : o.quiet P a C K) : o.quiet P a C K := h
theorem wpList_sbin (hgd : Region.wanted o (yielded ops a.tmps) = true) (b : BinOp) (T : TypeId) (x y : Operand) (T2 : TypeId) (ho : o.op = .binOp b T x y T2) (v u r : Value) (hx : a.eval x = v) (hy : a.eval y = u)
    (hr : ∀ w : World, (do eqGuard b T x y v u; binOp b T v u : Sem Value).run P w = .ok r w)
    (h : wpList P ops Q rest (a.put o.dst r) w) : wpList P ops Q (o :: rest) a w :=
  wpList_want' hgd fun _ hK => by
    unfold Oper.wp execOp
    simp only [ho, hx, hy]
    have hr' := hr w
    rw [Sem.run_bind] at hr'
    rw [Sem.run_bind, Sem.run_bind, hr']
    exact hK _ _ h
theorem gate_lbin (b : BinOp) (T : TypeId) (x y : Operand) (T2 : TypeId) (_ : o.op = .binOp b T x y T2) (h : wpList P ops Q (o :: rest) a w) : wpList P ops Q (o :: rest) a w := h
end
end Go.Proofs.Ytcgnnbgknaamdaa
