/-
  Several texts in one: what is read and written by the functions on the way to the statements. Conditions stand in each theorem.
-/
import Derived.Test.YtbonamhinnhlnaaGreatDoorP02
namespace Go.Proofs.YtbonamhinnhlnaaGreatDoor
open Go.RowKit
set_option linter.unusedSimpArgs false
set_option linter.unusedVariables false
set_option maxRecDepth 20000

def modeW (a b c : Int) (jam y jmp : Bool) : Int :=
  if jam = true then 20 else if b = 0 then (if c % 2 = 1 then 9 else if c = 0 ∧ a < 4 then (if a = 0 then 17 else if a = 1 then 14 else if a = 2 then 16 else 15) else 2)
  else if b = 1 then 3 else if b = 2 then (if c % 2 = 1 then 2 else if c = 0 ∧ a < 4 then 18 + a % 2 else if c = 2 ∧ a < 4 then 1 else 0)
  else if b = 3 then (if jmp = true then 15 - a else 6) else if b = 4 then (if c = 0 then 11 else 10) else if b = 5 then (if y = true then 5 else 4)
  else if b = 6 then (if c % 2 = 1 then 8 else 0) else (if y = true then 8 else 7)
def modeV (op : Int) : Int := modeW (op / 32) (op / 4 % 8) (op % 4) ((nameV op).toList == [74, 65, 77]) (isIn ⟨#[83, 84, 88, 32, 76, 68, 88, 32, 83, 65, 88, 32, 76, 65, 88, 32, 83, 72, 88, 32, 83, 72, 65, 32]⟩ (nameV op)) ((nameV op).toList == [74, 77, 80])
end Go.Proofs.YtbonamhinnhlnaaGreatDoor
