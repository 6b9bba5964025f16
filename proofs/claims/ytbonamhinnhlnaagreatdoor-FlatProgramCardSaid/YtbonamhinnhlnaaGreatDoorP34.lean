/-
  Several texts in one: what is read and written by the functions on the way to the statements. Conditions stand in each theorem.
-/
import Derived.Test.YtbonamhinnhlnaaGreatDoorP33
import Derived.Test.YtbonamhinnhlnaaGreatDoorP32
import Derived.MakeChecks
namespace Go.Proofs.YtbonamhinnhlnaaGreatDoor
open Go.RowKit
set_option linter.unusedSimpArgs false
set_option linter.unusedVariables false
set_option maxRecDepth 100000

def memA : List (Int × Bool) := (169, false) :: (5, false) :: List.replicate 254 (0, false)
def zcA (n : Nat) : Array Value := ((List.replicate n ((0 : Int), false)).flatMap bcl).toArray
def mcA : Array Value := (memA.flatMap bcl).toArray
theorem memA_len : memA.length = 256 := by decide
theorem memA_ok : okM memA := by
  intro x hx
  simp only [memA, List.mem_cons, List.mem_replicate] at hx
  rcases hx with rfl | rfl | ⟨_, rfl⟩ <;> decide
theorem memA_may : memB memA.length = true := by rw [memA_len]; decide +kernel
theorem cp0_fit : Fit cp0 := by constructor <;> decide
theorem cp0_ok : okB cp0 = true := by decide +kernel
theorem awk_maths : (stF cp0 memA 1).1.jam = false ∧ (stF cp0 memA 1).1.t ≠ 0 ∧ (stF cp0 memA 2).1.t = 0 ∧ (stF cp0 memA 2).1.av = 5 := by decide +kernel
theorem mcA_row : RowG bcl 2 mcA 256 memA := ⟨by kernel_rfl, by rw [memA_len]; exact Nat.le_refl _, by unfold maxLen; omega, fun j u h => by
  unfold mcA
  rw [List.getElem?_toArray]
  exact h⟩
theorem make_by (W : World) : (Instr.makeSlice 29 (.int .i64 256) (.int .i64 256)).run Tryz.prog W = .ok (.slice (some ⟨W.heap.size, 0, none⟩) 256 256) (W.alloc (.cells (zcA 256) 23)) := by kernel_rfl
theorem make_bz (W : World) : (Instr.makeSlice 29 (.int .i64 300) (.int .i64 300)).run Tryz.prog W = .ok (.slice (some ⟨W.heap.size, 0, none⟩) 300 300) (W.alloc (.cells (zcA 300) 23)) := by kernel_rfl
end Go.Proofs.YtbonamhinnhlnaaGreatDoor
