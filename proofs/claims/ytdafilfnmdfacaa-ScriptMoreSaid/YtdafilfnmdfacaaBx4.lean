/-
  A block of four cells: a struct's box. No condition.
-/
import Derived.Test.YtdafilfnmdfacaaLbl
import Derived.RangeFuncBox
namespace Go.Proofs.Ytdafilfnmdfacaa
open Go.RowKit

/-- Block R holds just these four cells. -/
structure BX (w : World) (R T : Nat) (a b c d : Value) : Prop where
  obj : w.heap[R]? = some (.cells #[a, b, c, d] T)
section
variable {w w' : World} {R T : Nat} {a b c d : Value}
theorem BX.lt (h : BX w R T a b c d) : R < w.heap.size := (Array.getElem?_eq_some_iff.1 h.obj).1
theorem BX.c0 (h : BX w R T a b c d) : w.cell? ⟨R, 0, none⟩ = some a := by rw [Lib.cell_of_heap h.obj]; rfl
theorem BX.c1 (h : BX w R T a b c d) : w.cell? ⟨R, 1, none⟩ = some b := by rw [Lib.cell_of_heap h.obj]; rfl
theorem BX.c2 (h : BX w R T a b c d) : w.cell? ⟨R, 2, none⟩ = some c := by rw [Lib.cell_of_heap h.obj]; rfl
theorem BX.c3 (h : BX w R T a b c d) : w.cell? ⟨R, 3, none⟩ = some d := by rw [Lib.cell_of_heap h.obj]; rfl
theorem BX.free (h : BX w R T a b c d) (i : Nat) : w.frozen? ⟨R, i, none⟩ = false := by simp [World.frozen?, show w.heap[R]? = _ from h.obj]
theorem BX.next (h : BX w R T a b c d) (hb : Below w.heap.size w w') : BX w' R T a b c d := ⟨(hb.block R h.lt).trans h.obj⟩
theorem BX.at (h : BX w R T a b c d) {n : Nat} (hn : R < n) (hb : Below n w w') : BX w' R T a b c d := ⟨(hb.block R hn).trans h.obj⟩
theorem BX.new (w : World) (T : Nat) (a b c d : Value) : BX (w.alloc (.cells #[a, b, c, d] T)) w.heap.size T a b c d := ⟨World.alloc_heap_new w _⟩
theorem BX.new1 (w : World) (o : Obj) (T : Nat) (a b c d : Value) : BX ((w.alloc o).alloc (.cells #[a, b, c, d] T)) (w.heap.size + 1) T a b c d := by
  have h := BX.new (w.alloc o) T a b c d
  rwa [show (w.alloc o).heap.size = w.heap.size + 1 by simp] at h
theorem BX.new2 (w : World) (o o' : Obj) (T : Nat) (a b c d : Value) : BX (((w.alloc o).alloc o').alloc (.cells #[a, b, c, d] T)) (w.heap.size + 1 + 1) T a b c d := by
  have h := BX.new ((w.alloc o).alloc o') T a b c d
  rwa [show ((w.alloc o).alloc o').heap.size = w.heap.size + 1 + 1 by simp] at h
theorem BX.alloc (h : BX w R T a b c d) (o : Obj) : BX (w.alloc o) R T a b c d := ⟨(Lib.alloc_old w o _ h.lt).trans h.obj⟩
theorem BX.drew (h : BX w R T a b c d) : BX w.drew R T a b c d := ⟨h.obj⟩
theorem BX.drewN (h : BX w R T a b c d) (n : Nat) : BX (w.drewN n) R T a b c d := ⟨h.obj⟩
theorem BX.set0 (h : BX w R T a b c d) (x : Value) : BX (w.setCell ⟨R, 0, none⟩ x) R T x b c d := ⟨by simp [World.setCell, Array.getElem?_modify, h.obj]⟩
theorem BX.set1 (h : BX w R T a b c d) (x : Value) : BX (w.setCell ⟨R, 1, none⟩ x) R T a x c d := ⟨by simp [World.setCell, Array.getElem?_modify, h.obj]⟩
theorem BX.set2 (h : BX w R T a b c d) (x : Value) : BX (w.setCell ⟨R, 2, none⟩ x) R T a b x d := ⟨by simp [World.setCell, Array.getElem?_modify, h.obj]⟩
theorem BX.set3 (h : BX w R T a b c d) (x : Value) : BX (w.setCell ⟨R, 3, none⟩ x) R T a b c x := ⟨by simp [World.setCell, Array.getElem?_modify, h.obj]⟩
theorem BX.set (h : BX w R T a b c d) (x y z u : Value) : BX ((((w.setCell ⟨R, 0, none⟩ x).setCell ⟨R, 1, none⟩ y).setCell ⟨R, 2, none⟩ z).setCell ⟨R, 3, none⟩ u) R T x y z u := (((h.set0 x).set1 y).set2 z).set3 u
theorem BX.other (h : BX w R T a b c d) {Q : Nat} (hq : Q ≠ R) (i : Nat) (x : Value) : BX (w.setCell ⟨Q, i, none⟩ x) R T a b c d := ⟨by simp [World.setCell, Array.getElem?_modify, hq, h.obj]⟩
theorem BX.others (h : BX w R T a b c d) {Q : Nat} (hq : Q ≠ R) (x y z u : Value) : BX ((((w.setCell ⟨Q, 0, none⟩ x).setCell ⟨Q, 1, none⟩ y).setCell ⟨Q, 2, none⟩ z).setCell ⟨Q, 3, none⟩ u) R T a b c d := (((h.other hq 0 x).other hq 1 y).other hq 2 z).other hq 3 u
theorem below_set4 {n : Nat} (h : Below n w w') (hr : n ≤ R) (x y z u : Value) : Below n w ((((w'.setCell ⟨R, 0, none⟩ x).setCell ⟨R, 1, none⟩ y).setCell ⟨R, 2, none⟩ z).setCell ⟨R, 3, none⟩ u) :=
  (((h.setCell (p := ⟨R, 0, none⟩) hr x).setCell (p := ⟨R, 1, none⟩) hr y).setCell (p := ⟨R, 2, none⟩) hr z).setCell (p := ⟨R, 3, none⟩) hr u
end
end Go.Proofs.Ytdafilfnmdfacaa
