/-
  Several texts in one: what is read and written by the functions on the way to the statements. Conditions stand in each theorem.
-/
import Derived.Test.YtcgnnbgknaamdaaGreatDoorX35
import Derived.Test.YtcgnnbgknaamdaaGreatDoorX03
import Derived.Laws.OwnMore
namespace Go.Proofs.YtcgnnbgknaamdaaGreatDoor
open Go.RowKit
set_option linter.unusedSimpArgs false
set_option linter.unusedVariables false
set_option maxRecDepth 20000

section
variable {n : Nat} {X : List Nat} {w0 w : World} {l blk : List (Nat × Array Value)} {v : Value} {L : List Bs}
theorem Mem.grown {w' : World} {row : Option Nat} (H : Mem n X w0 w l) (hg : w.grownBy w' row) (hr : ∀ b, row = some b → n ≤ b ∧ ∀ x ∈ l, x.1 ≠ b) : Mem n X w0 w' l :=
  H.stay hg.os hg.tape hg.output hg.size
    (fun b hb => hg.block b (Nat.lt_of_lt_of_le hb (Nat.le_trans H.base H.size)) (fun e => by have := (hr b e.symm).1; omega))
    (fun x hx => hg.block x.1 (H.lt hx) (fun e => (hr x.1 e.symm).2 x hx rfl))
theorem wp_bslB {P : Program} {Q : Exit → Act → World → Prop} {w : World} {o : Oper} {a : Act} {K : Act → World → Prop} (t e : TypeId) (ho : o.op = .buildSlice t 0 #[]) (ht : P.underlying t = some (.slice e)) (i : TypeInfo) (hi : P.info? e = some i)
    (h : K (a.put o.dst (.slice (some ⟨w.heap.size, 0, none⟩) 0 0)) (w.alloc (.cells #[] e))) : o.wp P a w K Q := by
  unfold Oper.wp execOp
  simp [ho, Instr.buildSlice, run_underlying ht, sizeOf, typeInfo, hi, Instr.fill, newRow, Result.andThen]
  have e : Array.map (fun x => default) (Array.range 0) = (#[] : Array Value) := Array.eq_empty_of_size_eq_zero (by simp)
  rw [e]
  exact h
end
attribute [local irreducible] wpList
end Go.Proofs.YtcgnnbgknaamdaaGreatDoor
