/-
  Several texts in one: what is read and written by the functions on the way to the statements. Conditions stand in each theorem.
-/
import Derived.Test.YtbonamhinnhlnaaGreatDoorL32
import Derived.Test.YtbonamhinnhlnaaGreatDoorL35
import Derived.Test.YtbonamhinnhlnaaGreatDoorL10
namespace Go.Proofs.YtbonamhinnhlnaaGreatDoor
open Go.RowKit
set_option linter.unusedSimpArgs false
set_option linter.unusedVariables false
set_option maxRecDepth 100000
def mcOf (l : List (Int × Bool)) : Array Value := (l.flatMap bcl).toArray
theorem mcOf_row (l : List (Int × Bool)) (n : Nat) (hl : l.length = n) (hn : n ≤ 65536) (hs : (mcOf l).size = n * 2) : RowG bcl 2 (mcOf l) n l := ⟨hs, by rw [hl]; exact Nat.le_refl _, by unfold maxLen; omega, fun j u h => by
  unfold mcOf
  rw [List.getElem?_toArray]
  exact h⟩
attribute [local irreducible] wpList
end Go.Proofs.YtbonamhinnhlnaaGreatDoor
