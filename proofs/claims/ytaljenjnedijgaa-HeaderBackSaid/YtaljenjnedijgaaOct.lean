/-
  Texts that are made of rows of octets: a row that is made, and read as a text. Over this seat's translation; no condition.
-/
import Derived.Test.YtaljenjnedijgaaHax
import Derived.Test.YtaljenjnedijgaaReb
namespace Go.Proofs.Ytaljenjnedijgaa
open Go.RowKit
set_option linter.unusedSimpArgs false
set_option linter.unusedVariables false

def octs (l : List Int) : Array Value := (l.map (Value.int .u8)).toArray
def rowV (n : Nat) (R : Nat) : Value := .slice (some ⟨R, 0, none⟩) n n
theorem octs_zeros (n : Nat) : madeCells #[.int .u8 0] n = octs (List.replicate n 0) := by
  apply Array.ext_getElem?
  intro i
  by_cases hi : i < n
  · rw [madeCells_one n i hi]
    simp [octs, hi]
  · have h1 : (madeCells #[Value.int .u8 0] n).size = n := by unfold madeCells; simp
    rw [Array.getElem?_eq_none (by omega), Array.getElem?_eq_none (by simp [octs]; omega)]
theorem make_octs (n : Nat) (hn : n ≤ 2000000) (W : World) : (Instr.makeSlice 30 (.int .i64 (n : Int)) (.int .i64 (n : Int))).run Try.prog W = .ok (rowV n W.heap.size) (W.alloc (.cells (octs (List.replicate n 0)) 5)) := by
  have := make_zeros n hn W
  unfold zObj at this
  rw [octs_zeros] at this
  exact this
theorem build_octs (q : Int) (W : World) : (Instr.buildSlice 30 1 #[(0, .int .u8 q)]).run Try.prog W = .ok (rowV 1 W.heap.size) (W.alloc (.cells (octs [q]) 5)) := by kernel_rfl
theorem conv_octs (l : List Int) (R : Nat) (T : TypeId) (W : World) (h : W.heap[R]? = some (.cells (octs l) T)) : (convert 30 9 (rowV l.length R)).run Try.prog W = .ok (.string (strOfNums l)) W :=
  run_convert_bytes_arg (P := Try.prog) _ 30 5 Try.underlying30 Try.underlying5 R 0 l.length l.length l rfl (fun i hi => by
    rw [Nat.zero_add, Lib.cell_of_heap h]
    unfold octs
    rw [List.getElem?_toArray, List.getElem?_map, List.getElem?_eq_getElem (by exact hi)]
    rw [List.getD_eq_getElem?_getD, List.getElem?_eq_getElem (by exact hi)]
    rfl) _ Try.underlying9
section
variable {P : Program} {o : Oper} {ρ : Operand → Value}
theorem ex_make {t : TypeId} {x y : Operand} {v u : Value} {V : Nat → Value} {z : Array Value} {T : TypeId} (ho : o.op = .makeSlice t x y) (hx : ρ x = v) (hy : ρ y = u)
    (hr : ∀ w : World, (Instr.makeSlice t v u).run P w = .ok (V w.heap.size) (w.alloc (.cells z T))) (w : World) : (execOp ρ o).run P w = .ok (.value (V w.heap.size)) (w.alloc (.cells z T)) := by
  unfold execOp
  simp only [ho, Sem.run_bind, Sem.run_pure, hx, hy, hr, Result.andThen_ok]
theorem ex_build1 {t : TypeId} {x : Operand} {v : Value} {V : Nat → Value} {z : Array Value} {T : TypeId} (ho : o.op = .buildSlice t 1 #[(0, x)]) (hx : ρ x = v)
    (hr : ∀ w : World, (Instr.buildSlice t 1 #[(0, v)]).run P w = .ok (V w.heap.size) (w.alloc (.cells z T))) (w : World) : (execOp ρ o).run P w = .ok (.value (V w.heap.size)) (w.alloc (.cells z T)) := by
  unfold execOp
  have e : (#[(0, x)] : Array (Nat × Operand)).map (fun (i, x) => (i, ρ x)) = #[(0, v)] := by simp [hx]
  simp only [ho, Sem.run_bind, Sem.run_pure, e, hr, Result.andThen_ok]
theorem ex_conv {t1 t2 : TypeId} {x : Operand} {v r : Value} (ho : o.op = .convert t1 t2 x) (hx : ρ x = v) {w : World} (hr : (convert t1 t2 v).run P w = .ok r w) : (execOp ρ o).run P w = .ok (.value r) w := by
  unfold execOp
  simp only [ho, Sem.run_bind, Sem.run_pure, hx, hr, Result.andThen_ok]
end
section
variable {ops : Array Oper} {rest : List Oper} {o : Oper} {a : Act} {w : World} {Q : Exit → Act → World → Prop} {n : Nat} {X : List Nat} {w0 : World} {l : List (Nat × Array Value)}
/-- The walk's laws for them, where the order is the text's. -/
theorem wpList_mmake (hgd : Region.wanted o (yielded ops a.tmps) = true) (x y : Operand) (ho : o.op = .makeSlice 30 x y) (H : Mem n X w0 w l) (i : Int) (k : Nat) (hx : a.eval x = .int .i64 i) (hy : a.eval y = .int .i64 i) (hk : i = (k : Int)) (hn : k ≤ 2000000)
    (h : ∀ R w1, Mem n X w0 w1 ((R, octs (List.replicate k 0)) :: l) → wpList Try.prog ops Q rest (a.put o.dst (rowV k R)) w1) : wpList Try.prog ops Q (o :: rest) a w :=
  wpList_want' hgd fun _ hK => by
    subst hk
    unfold Oper.wp
    rw [ex_make ho hx hy (make_octs k hn)]
    simp only [Oper.upon]
    exact hK _ _ (h _ _ (H.new _ _))
theorem wpList_mbuild1 (hgd : Region.wanted o (yielded ops a.tmps) = true) (x : Operand) (ho : o.op = .buildSlice 30 1 #[(0, x)]) (H : Mem n X w0 w l) (q : Int) (hx : a.eval x = .int .u8 q)
    (h : ∀ R w1, Mem n X w0 w1 ((R, octs [q]) :: l) → wpList Try.prog ops Q rest (a.put o.dst (rowV 1 R)) w1) : wpList Try.prog ops Q (o :: rest) a w :=
  wpList_want' hgd fun _ hK => by
    unfold Oper.wp
    rw [ex_build1 ho hx (build_octs q)]
    simp only [Oper.upon]
    exact hK _ _ (h _ _ (H.new _ _))
theorem wpList_mconv (hgd : Region.wanted o (yielded ops a.tmps) = true) (x : Operand) (ho : o.op = .convert 30 9 x) (R k : Nat) (hx : a.eval x = rowV k R) (i : Nat) (H : Mem n X w0 w l) (c : List Int) (hi : l[i]? = some (R, octs c)) (hc : c.length = k)
    (h : wpList Try.prog ops Q rest (a.put o.dst (.string (strOfNums c))) w) : wpList Try.prog ops Q (o :: rest) a w :=
  wpList_want' hgd fun _ hK => by
    obtain ⟨T, hg⟩ := H.get hi
    subst hc
    unfold Oper.wp
    rw [ex_conv ho hx (conv_octs c R T w hg)]
    simp only [Oper.upon]
    exact hK _ _ h
end
end Go.Proofs.Ytaljenjnedijgaa
