/-
  What holds where a cartridge's box is made; long chains of stores. Over this seat's translation; no condition.
-/
import Derived.Test.YtaljenjnedijgaaAlp
import Derived.Test.YtaljenjnedijgaaHcp
namespace Go.Proofs.Ytaljenjnedijgaa
open Go.RowKit

def crt0 : Crt := ⟨0, 0, 0, 0, false, false, false, false, false⟩
theorem run_alloc_cart (o : Oper) (h : o.op = .alloc 23) (ρ : Operand → Value) (w : World) : (execOp ρ o).run Try.prog w = .ok (.value (ptrTo w.heap.size)) (w.alloc (.cells #[.int .i64 0, .int .i64 0, .int .i64 0, .int .i64 0, .bool false, .bool false, .bool false, .bool false, .bool false] 23)) := by
  unfold execOp
  rw [h]
  kernel_rfl
theorem HD.new (w : World) (x : Nat → Int) : HD (w.alloc (.cells #[.int .u8 (x 0), .int .u8 (x 1), .int .u8 (x 2), .int .u8 (x 3), .int .u8 (x 4), .int .u8 (x 5), .int .u8 (x 6), .int .u8 (x 7), .int .u8 (x 8), .int .u8 (x 9), .int .u8 (x 10), .int .u8 (x 11), .int .u8 (x 12), .int .u8 (x 13), .int .u8 (x 14), .int .u8 (x 15)] 45)) w.heap.size x := ⟨World.alloc_heap_new w _⟩
theorem CX.new1 (w : World) (o : Obj) (c : Crt) : CX ((w.alloc o).alloc (.cells #[.int .i64 c.m, .int .i64 c.s, .int .i64 c.p, .int .i64 c.k, .bool c.b, .bool c.f, .bool c.v, .bool c.t, .bool c.o] 23)) (w.heap.size + 1) c := by
  have h := CX.new (w.alloc o) c
  rwa [show (w.alloc o).heap.size = w.heap.size + 1 by simp] at h
theorem CX.of_box {w : World} {R : Nat} (h : w.heap[R]? = some (.cells #[.int .i64 0, .int .i64 0, .int .i64 0, .int .i64 0, .bool false, .bool false, .bool false, .bool false, .bool false] 23)) : CX w R crt0 := ⟨h⟩
set_option maxHeartbeats 1000000 in
theorem below_set9 {n : Nat} {w w' : World} {R : Nat} (h : Below n w w') (hr : n ≤ R) (c : Crt) : Below n w (((((((((w'.setCell ⟨R, 0, none⟩ (.int .i64 c.m)).setCell ⟨R, 1, none⟩ (.int .i64 c.s)).setCell ⟨R, 2, none⟩ (.int .i64 c.p)).setCell ⟨R, 3, none⟩ (.int .i64 c.k)).setCell ⟨R, 4, none⟩ (.bool c.b)).setCell ⟨R, 5, none⟩ (.bool c.f)).setCell ⟨R, 6, none⟩ (.bool c.v)).setCell ⟨R, 7, none⟩ (.bool c.t)).setCell ⟨R, 8, none⟩ (.bool c.o)) := by
  have st : ∀ {v : World}, Below n w v → ∀ (i : Nat) (y : Value), Below n w (v.setCell ⟨R, i, none⟩ y) := fun h i y => h.setCell (p := ⟨R, i, none⟩) hr y
  exact st (st (st (st (st (st (st (st (st h 0 _) 1 _) 2 _) 3 _) 4 _) 5 _) 6 _) 7 _) 8 _
theorem CX.others {w : World} {R Q : Nat} {c : Crt} (h : CX w R c) (hq : Q ≠ R) (d : Crt) : CX (((((((((w.setCell ⟨Q, 0, none⟩ (.int .i64 d.m)).setCell ⟨Q, 1, none⟩ (.int .i64 d.s)).setCell ⟨Q, 2, none⟩ (.int .i64 d.p)).setCell ⟨Q, 3, none⟩ (.int .i64 d.k)).setCell ⟨Q, 4, none⟩ (.bool d.b)).setCell ⟨Q, 5, none⟩ (.bool d.f)).setCell ⟨Q, 6, none⟩ (.bool d.v)).setCell ⟨Q, 7, none⟩ (.bool d.t)).setCell ⟨Q, 8, none⟩ (.bool d.o)) R c := ⟨by simp [World.setCell, Array.getElem?_modify, hq, h.obj]⟩
/-- What holds behind a statement that makes a cartridge's box. -/
def CartCut (w : World) (n : Nat) (c : Crt) (t : Value) (wx : World) : Prop := ∃ b, t = .pointer (some ⟨b, 0, none⟩) ∧ n < b ∧ CX wx b c ∧ CX wx n crt0 ∧ Below w.heap.size w wx
end Go.Proofs.Ytaljenjnedijgaa
