/-
  A row that is built of what is at hand, and a field of a struct that is a value, in a walk over blocks known whole. No condition on the program.
-/
import Derived.Test.YtkmmmnoipgdedaaRgx
namespace Go.Proofs.Ytkmmmnoipgdedaa
open Go.RowKit
section
variable {P : Program} {ops : Array Oper} {rest : List Oper} {o : Oper} {a : Act} {w : World} {Q : Exit → Act → World → Prop} {K : Act → World → Prop} {n : Nat} {X : List Nat} {w0 : World} {l : List (Nat × Array Value)}
/-- A row is built of what is at hand. -/
theorem wpList_mrow (hgd : Region.wanted o (yielded ops a.tmps) = true) (t : TypeId) (m : Nat) (xs : Array (Nat × Operand)) (ho : o.op = .buildSlice t m xs) (H : Mem n X w0 w l) (vs : Array (Nat × Value)) (hx : xs.map (fun (i, x) => (i, a.eval x)) = vs) (z : Array Value) (T : TypeId)
    (hr : ∀ w : World, (Instr.buildSlice t m vs).run P w = .ok (.slice (some ⟨w.heap.size, 0, none⟩) m m) (w.alloc (.cells z T)))
    (h : ∀ R w1, Mem n X w0 w1 ((R, z) :: l) → wpList P ops Q rest (a.put o.dst (.slice (some ⟨R, 0, none⟩) m m)) w1) : wpList P ops Q (o :: rest) a w :=
  wpList_want' hgd fun _ hK => by
    unfold Oper.wp
    rw [ex_buildN (V := fun R => .slice (some ⟨R, 0, none⟩) m m) ho hx hr]
    simp only [Oper.upon]
    exact hK _ _ (h _ _ (H.new _ _))
/-- A field of a struct that is a value. -/
theorem wpList_mfield (hgd : Region.wanted o (yielded ops a.tmps) = true) (T : TypeId) (x : Operand) (i : Nat) (ho : o.op = .field T x i) (v r : Value) (hx : a.eval x = v) (hr : ∀ w : World, (Instr.field T v i).run P w = .ok r w)
    (h : wpList P ops Q rest (a.put o.dst r) w) : wpList P ops Q (o :: rest) a w :=
  wpList_want' hgd fun _ hK => by
    unfold Oper.wp execOp
    simp only [ho, hx, Sem.run_bind, Sem.run_pure, hr, Result.andThen_ok, Oper.upon]
    exact hK _ _ h
end
end Go.Proofs.Ytkmmmnoipgdedaa
