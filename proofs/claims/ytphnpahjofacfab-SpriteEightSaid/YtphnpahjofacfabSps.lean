/-
  The document's Find. Over this seat's translation; no condition. (Written by gen_sp.py.)
-/
import Derived.Test.YtphnpahjofacfabSpr
import Derived.Test.YtphnpahjofacfabSpe
namespace Go.Proofs.Ytphnpahjofacfab
open Go.RowKit Go.Sort
set_option linter.unusedSimpArgs false
set_option linter.unusedVariables false
set_option maxRecDepth 20000

theorem rfi_s {l : List (Int × Bool)} {s : Bool} {k : Nat} (h : secY l = (s || secF l (64 - k) k)) (hk : k < 64) : secY l = ((s || (nth l (4 * k)).2) || secF l (64 - (k + 1)) (k + 1)) := by
  rw [h, show 64 - k = (64 - (k + 1)) + 1 by omega, secF, Bool.or_assoc]
theorem rfi_no {A P : List Nat} {l : List (Int × Bool)} {line : Int} {t : Bool} {k : Nat} (h : A = P ++ fromS l line t (64 - k) k) (hk : k < 64) (ho : onS l line t k = false) : A = P ++ fromS l line t (64 - (k + 1)) (k + 1) := by
  rw [h, show 64 - k = (64 - (k + 1)) + 1 by omega, fromS_no _ _ _ _ _ ho]
theorem rfi_yes {A P : List Nat} {l : List (Int × Bool)} {line : Int} {t : Bool} {k : Nat} (h : A = P ++ fromS l line t (64 - k) k) (hk : k < 64) (ho : onS l line t k = true) : A = (P ++ [k]) ++ fromS l line t (64 - (k + 1)) (k + 1) := by
  rw [h, show 64 - k = (64 - (k + 1)) + 1 by omega, fromS_yes _ _ _ _ _ ho, List.append_assoc]
  rfl
/-- What the document's Find answers. -/
def RFindP (l : List (Int × Bool)) (line : Int) (t : Bool) (w : World) (e : Ending) (w' : World) : Prop :=
  ∃ v blk, e = .returned (.tuple #[v, .bool (decide (8 < (onL l line t).length)), .bool (secY l)]) ∧ RowAt icl 1 v ((onL l line t).take 8) blk ∧ Mem w.heap.size [] w w' blk
theorem alloc_sby (w : World) : (Instr.alloc 26 true (.tuple #[])).run Try.prog w = .ok (.pointer (some ⟨w.heap.size, 0, none⟩)) (w.alloc (.cells #[.int .u8 0, .bool false] 26)) := by kernel_rfl
attribute [local irreducible] wpList
end Go.Proofs.Ytphnpahjofacfab
