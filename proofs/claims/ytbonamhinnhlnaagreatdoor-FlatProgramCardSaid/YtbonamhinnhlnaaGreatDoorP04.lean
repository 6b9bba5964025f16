/-
  Several texts in one: what is read and written by the functions on the way to the statements. Conditions stand in each theorem.
-/
import Derived.Test.YtbonamhinnhlnaaGreatDoorP03
namespace Go.Proofs.YtbonamhinnhlnaaGreatDoor
open Go.RowKit
set_option linter.unusedSimpArgs false
set_option linter.unusedVariables false
set_option maxRecDepth 20000

def useW (m : Int) (w2 w3 : Bool) : Int := if m < 2 ∨ 10 < m then 0 else if w2 = true then 2 else if w3 = true then 3 else 1
def useN (nm : ByteArray) (m : Int) : Int := useW m (isIn ⟨#[83, 84, 65, 32, 83, 84, 88, 32, 83, 84, 89, 32, 83, 65, 88, 32, 83, 72, 65, 32, 83, 72, 88, 32, 83, 72, 89, 32, 84, 65, 83, 32]⟩ nm) (isIn ⟨#[65, 83, 76, 32, 76, 83, 82, 32, 82, 79, 76, 32, 82, 79, 82, 32, 73, 78, 67, 32, 68, 69, 67, 32, 83, 76, 79, 32, 82, 76, 65, 32, 83, 82, 69, 32, 82, 82, 65, 32, 68, 67, 80, 32, 73, 83, 67, 32]⟩ nm)
def baseV (m : Int) : Int := if m = 3 then 3 else if m = 4 ∨ m = 5 ∨ m = 6 ∨ m = 7 ∨ m = 8 then 4 else if m = 9 then 6 else if m = 10 then 5 else if m = 12 then 5 else if m = 13 then 3 else if m = 14 ∨ m = 15 ∨ m = 16 then 6 else if m = 17 then 7 else if m = 18 then 3 else if m = 19 then 4 else if m = 20 then 0 else 2
def cycV (m u : Int) : Int := baseV m + (if 2 ≤ u ∧ (m = 7 ∨ m = 8 ∨ m = 10) then 1 else 0) + (if u = 3 then 2 else 0)
end Go.Proofs.YtbonamhinnhlnaaGreatDoor
