/-
  A block of nine cells: a cartridge's box; a block of sixteen: a header's. No condition.
-/
import Derived.Test.YtodmhmkbiafahaaHca
import Derived.RangeFuncBox
namespace Go.Proofs.Ytodmhmkbiafahaa
open Go.RowKit

/-- Block R holds just this cartridge. -/
structure CX (w : World) (R : Nat) (c : Crt) : Prop where
  obj : w.heap[R]? = some (.cells #[.int .i64 c.m, .int .i64 c.s, .int .i64 c.p, .int .i64 c.k, .bool c.b, .bool c.f, .bool c.v, .bool c.t, .bool c.o] 49)
section
variable {w w' : World} {R : Nat} {c : Crt}
theorem CX.lt (h : CX w R c) : R < w.heap.size := (Array.getElem?_eq_some_iff.1 h.obj).1
theorem CX.c0 (h : CX w R c) : w.cell? ⟨R, 0, none⟩ = some (.int .i64 c.m) := by rw [Lib.cell_of_heap h.obj]; rfl
theorem CX.c1 (h : CX w R c) : w.cell? ⟨R, 1, none⟩ = some (.int .i64 c.s) := by rw [Lib.cell_of_heap h.obj]; rfl
theorem CX.c2 (h : CX w R c) : w.cell? ⟨R, 2, none⟩ = some (.int .i64 c.p) := by rw [Lib.cell_of_heap h.obj]; rfl
theorem CX.c3 (h : CX w R c) : w.cell? ⟨R, 3, none⟩ = some (.int .i64 c.k) := by rw [Lib.cell_of_heap h.obj]; rfl
theorem CX.c4 (h : CX w R c) : w.cell? ⟨R, 4, none⟩ = some (.bool c.b) := by rw [Lib.cell_of_heap h.obj]; rfl
theorem CX.c5 (h : CX w R c) : w.cell? ⟨R, 5, none⟩ = some (.bool c.f) := by rw [Lib.cell_of_heap h.obj]; rfl
theorem CX.c6 (h : CX w R c) : w.cell? ⟨R, 6, none⟩ = some (.bool c.v) := by rw [Lib.cell_of_heap h.obj]; rfl
theorem CX.c7 (h : CX w R c) : w.cell? ⟨R, 7, none⟩ = some (.bool c.t) := by rw [Lib.cell_of_heap h.obj]; rfl
theorem CX.c8 (h : CX w R c) : w.cell? ⟨R, 8, none⟩ = some (.bool c.o) := by rw [Lib.cell_of_heap h.obj]; rfl
theorem CX.free (h : CX w R c) (i : Nat) : w.frozen? ⟨R, i, none⟩ = false := by simp [World.frozen?, show w.heap[R]? = _ from h.obj]
theorem CX.next (h : CX w R c) (hb : Below w.heap.size w w') : CX w' R c := ⟨(hb.block R h.lt).trans h.obj⟩
theorem CX.new (w : World) (c : Crt) : CX (w.alloc (.cells #[.int .i64 c.m, .int .i64 c.s, .int .i64 c.p, .int .i64 c.k, .bool c.b, .bool c.f, .bool c.v, .bool c.t, .bool c.o] 49)) w.heap.size c := ⟨World.alloc_heap_new w _⟩
theorem CX.set (h : CX w R c) (d : Crt) : CX (((((((((w.setCell ⟨R, 0, none⟩ (.int .i64 d.m)).setCell ⟨R, 1, none⟩ (.int .i64 d.s)).setCell ⟨R, 2, none⟩ (.int .i64 d.p)).setCell ⟨R, 3, none⟩ (.int .i64 d.k)).setCell ⟨R, 4, none⟩ (.bool d.b)).setCell ⟨R, 5, none⟩ (.bool d.f)).setCell ⟨R, 6, none⟩ (.bool d.v)).setCell ⟨R, 7, none⟩ (.bool d.t)).setCell ⟨R, 8, none⟩ (.bool d.o)) R d := ⟨by simp [World.setCell, Array.getElem?_modify, h.obj]⟩
end
/-- A header's octets, as a value. -/
def hdV (x : Nat → Int) : Value := .agg #[.int .u8 (x 0), .int .u8 (x 1), .int .u8 (x 2), .int .u8 (x 3), .int .u8 (x 4), .int .u8 (x 5), .int .u8 (x 6), .int .u8 (x 7), .int .u8 (x 8), .int .u8 (x 9), .int .u8 (x 10), .int .u8 (x 11), .int .u8 (x 12), .int .u8 (x 13), .int .u8 (x 14), .int .u8 (x 15)]
end Go.Proofs.Ytodmhmkbiafahaa
