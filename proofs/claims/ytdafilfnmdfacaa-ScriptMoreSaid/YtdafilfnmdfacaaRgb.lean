/-
  Contracts of the document's plain answers that only read ranges, and cells: which may be, which places are in them, whether two lists are the same. Over this seat's translation; no condition.
-/
import Derived.Test.YtdafilfnmdfacaaRng
namespace Go.Proofs.Ytdafilfnmdfacaa
open Go.RowKit

theorem nextc {w w' : World} {b o : Nat} {x : Value} (hb : Below w.heap.size w w') (h : b < w.heap.size ∧ w.cell? ⟨b, o, none⟩ = some x) : b < w'.heap.size ∧ w'.cell? ⟨b, o, none⟩ = some x :=
  ⟨Nat.lt_of_lt_of_le h.1 hb.size, by rw [hb.cell (p := ⟨b, o, none⟩) h.1]; exact h.2⟩
theorem nextb {W w w' : World} (hb : Below w.heap.size w w') (h : Below W.heap.size W w) : Below W.heap.size W w' := h.next hb

/-! ### the same, one by one -/
def eqL {α : Type} [DecidableEq α] (l m : List α) : Bool := decide (l = m)
theorem eqL_self {α : Type} [DecidableEq α] (l : List α) : eqL l l = true := by simp [eqL]
theorem eqL_len {α : Type} [DecidableEq α] (l m : List α) (h : ¬ l.length = m.length) : eqL l m = false := by
  simp only [eqL, decide_eq_false_iff_not]; intro e; exact h (by rw [e])
theorem eqL_end {α : Type} [DecidableEq α] (l m : List α) (d : α) (hl : l.length = m.length) (h : ∀ j, j < l.length → l.getD j d = m.getD j d) : eqL l m = true := by
  simp only [eqL, decide_eq_true_eq]
  refine List.ext_getElem hl fun i h1 h2 => ?_
  have := h i h1
  rw [List.getD_eq_getElem?_getD, List.getD_eq_getElem?_getD, List.getElem?_eq_getElem h1, List.getElem?_eq_getElem h2] at this
  exact this
theorem eqL_no {α : Type} [DecidableEq α] (l m : List α) (d : α) (k : Nat) (h : ¬ l.getD k d = m.getD k d) : eqL l m = false := by
  simp only [eqL, decide_eq_false_iff_not]; intro e; exact h (by rw [e])

theorem stood_range : Try.prog.stoodInHeld 52 = false := by kernel_rfl
theorem struct_range : Try.prog.underlying 52 = some (.struct (Try.prog.fieldsOf 52)) := by kernel_rfl
theorem neq_range (a b c d : Int) (w : World) : (binOp .neq 52 (.agg #[.int .i64 a, .int .i64 b]) (.agg #[.int .i64 c, .int .i64 d])).run Try.prog w = .ok (.bool (!(a == c && b == d))) w := by
  have u3 := Try.underlying3
  have a3 := Try.isAgg3
  have z3 := Try.sizeOf3
  rw [run_neq_struct, show (10000 : Nat) = 9999 + 1 from rfl, run_equalIn_agg w 9999 52 _ _ struct_range stood_range]
  simp only [Program.fieldsOf, Try.underlying52]
  go_simp
  by_cases h1 : a = c <;> by_cases h2 : b = d <;> simp [h1, h2]

end Go.Proofs.Ytdafilfnmdfacaa
