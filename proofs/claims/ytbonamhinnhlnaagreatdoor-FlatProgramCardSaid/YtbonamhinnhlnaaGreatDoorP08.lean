/-
  Several texts in one: what is read and written by the functions on the way to the statements. Conditions stand in each theorem.
-/
import Derived.Test.YtbonamhinnhlnaaGreatDoorP04
namespace Go.Proofs.YtbonamhinnhlnaaGreatDoor
open Go.RowKit
set_option linter.unusedSimpArgs false
set_option linter.unusedVariables false
set_option maxRecDepth 20000

def crossQ (m u : Int) : Bool := if m = 7 ∨ m = 8 ∨ m = 10 then (u == 1) else (m == 11)
set_option maxHeartbeats 2000000 in
theorem qcrosses_ct (m u : Int) (w : World) :
    Calls Tryz.prog 80 #[.int .i64 m, .int .i64 u] w fun e w' => e = .returned (.bool (crossQ m u)) ∧ Below w.heap.size w w' := by
  have hm : m = 7 ∨ m = 8 ∨ m = 10 ∨ (m ≠ 7 ∧ m ≠ 8 ∧ m ≠ 10) := by omega
  unfold crossQ
  rcases hm with rfl | rfl | rfl | ⟨h7, h8, h10⟩
  · rw [if_pos (by decide)]
    go_enter Tryz.func80, Tryz.ntmps80
    go_wp2
    go_ret
    exact ⟨rfl, Below.refl _ _⟩
  · rw [if_pos (by decide)]
    go_enter Tryz.func80, Tryz.ntmps80
    go_wp2
    go_ret
    exact ⟨rfl, Below.refl _ _⟩
  · rw [if_pos (by decide)]
    go_enter Tryz.func80, Tryz.ntmps80
    go_wp2
    go_ret
    exact ⟨rfl, Below.refl _ _⟩
  · rw [if_neg (by omega)]
    have e1 : (m == 7) = false := by simp; omega
    have e2 : (m == 8) = false := by simp; omega
    have e3 : (m == 10) = false := by simp; omega
    go_enter Tryz.func80, Tryz.ntmps80
    go_wp2
    go_ret
    exact ⟨rfl, Below.refl _ _⟩
end Go.Proofs.YtbonamhinnhlnaaGreatDoor
