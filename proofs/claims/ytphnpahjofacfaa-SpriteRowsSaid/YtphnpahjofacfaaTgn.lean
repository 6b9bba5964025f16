/-
  An element read by its place, a struct built, and two values compared, each known by its run. No condition on the program.
-/
import Derived.Test.YtphnpahjofacfaaMem
import Derived.ChangeKeysEq
namespace Go.Proofs.Ytphnpahjofacfaa
open Go.RowKit Go.Sort
set_option linter.unusedSimpArgs false
set_option linter.unusedVariables false

section
variable {P : Program} {ops : Array Oper} {rest : List Oper} {o : Oper} {a : Act} {w : World} {Q : Exit → Act → World → Prop}
theorem wpList_tix (hgd : Region.wanted o (yielded ops a.tmps) = true) (T : TypeId) (x i : Operand) (ho : o.op = .index T x i) (v u r : Value) (hx : a.eval x = v) (hi : a.eval i = u) (hr : ∀ w : World, (Instr.index T v u).run P w = .ok r w)
    (h : wpList P ops Q rest (a.put o.dst r) w) : wpList P ops Q (o :: rest) a w :=
  wpList_want' hgd fun _ hK => by
    unfold Oper.wp execOp
    simp only [ho, hx, hi, Sem.run_bind, Sem.run_pure, hr, Result.andThen_ok, Oper.upon]
    exact hK _ _ h
theorem gate_tix (T : TypeId) (x i : Operand) (_ : o.op = .index T x i) (h : wpList P ops Q (o :: rest) a w) : wpList P ops Q (o :: rest) a w := h
theorem wpList_tbd (hgd : Region.wanted o (yielded ops a.tmps) = true) (T : TypeId) (xs : Array (Nat × Operand)) (ho : o.op = .build T xs) (vs : Array (Nat × Value)) (hx : xs.map (fun (i, x) => (i, a.eval x)) = vs) (r : Value)
    (hr : ∀ w : World, (Instr.build T vs).run P w = .ok r w) (h : wpList P ops Q rest (a.put o.dst r) w) : wpList P ops Q (o :: rest) a w :=
  wpList_want' hgd fun _ hK => by
    unfold Oper.wp execOp
    simp only [ho, hx, Sem.run_bind, Sem.run_pure, hr, Result.andThen_ok, Oper.upon]
    exact hK _ _ h
theorem wpList_tbin (hgd : Region.wanted o (yielded ops a.tmps) = true) (b : BinOp) (T : TypeId) (x y : Operand) (T2 : TypeId) (ho : o.op = .binOp b T x y T2) (v u r : Value) (hx : a.eval x = v) (hy : a.eval y = u)
    (hr : ∀ w : World, (do eqGuard b T x y v u; binOp b T v u : Sem Value).run P w = .ok r w)
    (h : wpList P ops Q rest (a.put o.dst r) w) : wpList P ops Q (o :: rest) a w :=
  wpList_want' hgd fun _ hK => by
    unfold Oper.wp execOp
    simp only [ho, hx, hy]
    have hr' := hr w
    rw [Sem.run_bind] at hr'
    rw [Sem.run_bind, Sem.run_bind, hr']
    exact hK _ _ h
theorem gate_tbin (b : BinOp) (T : TypeId) (x y : Operand) (T2 : TypeId) (_ : o.op = .binOp b T x y T2) (h : wpList P ops Q (o :: rest) a w) : wpList P ops Q (o :: rest) a w := h
theorem quiet_tbin {C : World → Prop} {K : Act → Prop} (b : BinOp) (T : TypeId) (x y : Operand) (T2 : TypeId) (ho : o.op = .binOp b T x y T2) (v u r : Value) (hx : a.eval x = v) (hy : a.eval y = u)
    (hr : ∀ w : World, (do eqGuard b T x y v u; binOp b T v u : Sem Value).run P w = .ok r w) (h : K (a.put o.dst r)) : o.quiet P a C K :=
  ⟨r, fun w' hw' => by
    unfold Oper.quietAt execOp
    simp only [ho, hx, hy]
    rw [Sem.run_bind, hr]
    exact ⟨rfl, rfl⟩, h⟩
theorem gate_qtb {C : World → Prop} {K : Act → Prop} (b : BinOp) (T : TypeId) (x y : Operand) (T2 : TypeId) (_ : o.op = .binOp b T x y T2) (h : o.quiet P a C K) : o.quiet P a C K := h
end
end Go.Proofs.Ytphnpahjofacfaa
