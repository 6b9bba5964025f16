/-
  The program's uses of opcodes. Over this seat's translation. (Written by gen_oq.py.)
-/
import Derived.Test.YtddeakcipmhobaaDoorOqa
namespace Go.Proofs.YtddeakcipmhobaaDoor
open Go.RowKit
set_option linter.unusedSimpArgs false
set_option linter.unusedVariables false
set_option maxRecDepth 20000

def usedQ (nm : List UInt8) : Int := if (nm == [83, 84, 65]) = true then 2 else if (nm == [83, 84, 88]) = true then 2 else if (nm == [83, 84, 89]) = true then 2 else if (nm == [83, 65, 88]) = true then 2 else if (nm == [83, 72, 65]) = true then 2 else if (nm == [83, 72, 88]) = true then 2 else if (nm == [83, 72, 89]) = true then 2 else if (nm == [84, 65, 83]) = true then 2 else if (nm == [65, 83, 76]) = true then 3 else if (nm == [76, 83, 82]) = true then 3 else if (nm == [82, 79, 76]) = true then 3 else if (nm == [82, 79, 82]) = true then 3 else if (nm == [73, 78, 67]) = true then 3 else if (nm == [68, 69, 67]) = true then 3 else if (nm == [83, 76, 79]) = true then 3 else if (nm == [82, 76, 65]) = true then 3 else if (nm == [83, 82, 69]) = true then 3 else if (nm == [82, 82, 65]) = true then 3 else if (nm == [68, 67, 80]) = true then 3 else if (nm == [73, 83, 67]) = true then 3 else 1
def useQ (nm : List UInt8) (m : Int) : Int := if m = 2 then 1 else if m < 3 ∨ 10 < m then 0 else usedQ nm
set_option maxHeartbeats 16000000 in
theorem quseof_ct (nm : ByteArray) (m : Int) (w : World) :
    Calls Tryd.prog 17 #[.string nm, .int .i64 m] w fun e w' => e = .returned (.int .i64 (useQ nm.toList m)) ∧ Below w.heap.size w w' := by
  have hm : m = 2 ∨ m < 2 ∨ 10 < m ∨ (3 ≤ m ∧ m ≤ 10) := by omega
  unfold useQ
  rcases hm with rfl | hm | hm | ⟨hm, hn⟩
  · rw [if_pos rfl]
    go_enter Tryd.func17, Tryd.ntmps17
    go_wp2
    go_ret
    exact ⟨rfl, Below.refl _ _⟩
  · rw [if_neg (by omega), if_pos (by omega)]
    have e1 : (m == 2) = false := by simp; omega
    have e2 : decide (m < 3) = true := decide_eq_true (by omega)
    go_enter Tryd.func17, Tryd.ntmps17
    go_wp2
    go_ret
    exact ⟨rfl, Below.refl _ _⟩
  · rw [if_neg (by omega), if_pos (by omega)]
    have e1 : (m == 2) = false := by simp; omega
    have e2 : decide (m < 3) = false := decide_eq_false (by omega)
    have e3 : decide (10 < m) = true := decide_eq_true (by omega)
    go_enter Tryd.func17, Tryd.ntmps17
    go_wp2
    go_ret
    exact ⟨rfl, Below.refl _ _⟩
  rw [if_neg (by omega), if_neg (by omega)]
  have e1 : (m == 2) = false := by simp; omega
  have e2 : decide (m < 3) = false := decide_eq_false (by omega)
  have e3 : decide (10 < m) = false := decide_eq_false (by omega)
  unfold usedQ
  cases h0 : (nm.toList == [83, 84, 65])
  rotate_left
  · simp only [Bool.false_eq_true, if_true, if_false, reduceIte]
    go_enter Tryd.func17, Tryd.ntmps17
    go_wp2
    go_ret
    exact ⟨rfl, Below.refl _ _⟩
  cases h1 : (nm.toList == [83, 84, 88])
  rotate_left
  · simp only [Bool.false_eq_true, if_true, if_false, reduceIte]
    go_enter Tryd.func17, Tryd.ntmps17
    go_wp2
    go_ret
    exact ⟨rfl, Below.refl _ _⟩
  cases h2 : (nm.toList == [83, 84, 89])
  rotate_left
  · simp only [Bool.false_eq_true, if_true, if_false, reduceIte]
    go_enter Tryd.func17, Tryd.ntmps17
    go_wp2
    go_ret
    exact ⟨rfl, Below.refl _ _⟩
  cases h3 : (nm.toList == [83, 65, 88])
  rotate_left
  · simp only [Bool.false_eq_true, if_true, if_false, reduceIte]
    go_enter Tryd.func17, Tryd.ntmps17
    go_wp2
    go_ret
    exact ⟨rfl, Below.refl _ _⟩
  cases h4 : (nm.toList == [83, 72, 65])
  rotate_left
  · simp only [Bool.false_eq_true, if_true, if_false, reduceIte]
    go_enter Tryd.func17, Tryd.ntmps17
    go_wp2
    go_ret
    exact ⟨rfl, Below.refl _ _⟩
  cases h5 : (nm.toList == [83, 72, 88])
  rotate_left
  · simp only [Bool.false_eq_true, if_true, if_false, reduceIte]
    go_enter Tryd.func17, Tryd.ntmps17
    go_wp2
    go_ret
    exact ⟨rfl, Below.refl _ _⟩
  cases h6 : (nm.toList == [83, 72, 89])
  rotate_left
  · simp only [Bool.false_eq_true, if_true, if_false, reduceIte]
    go_enter Tryd.func17, Tryd.ntmps17
    go_wp2
    go_ret
    exact ⟨rfl, Below.refl _ _⟩
  cases h7 : (nm.toList == [84, 65, 83])
  rotate_left
  · simp only [Bool.false_eq_true, if_true, if_false, reduceIte]
    go_enter Tryd.func17, Tryd.ntmps17
    go_wp2
    go_ret
    exact ⟨rfl, Below.refl _ _⟩
  cases h8 : (nm.toList == [65, 83, 76])
  rotate_left
  · simp only [Bool.false_eq_true, if_true, if_false, reduceIte]
    go_enter Tryd.func17, Tryd.ntmps17
    go_wp2
    go_ret
    exact ⟨rfl, Below.refl _ _⟩
  cases h9 : (nm.toList == [76, 83, 82])
  rotate_left
  · simp only [Bool.false_eq_true, if_true, if_false, reduceIte]
    go_enter Tryd.func17, Tryd.ntmps17
    go_wp2
    go_ret
    exact ⟨rfl, Below.refl _ _⟩
  cases h10 : (nm.toList == [82, 79, 76])
  rotate_left
  · simp only [Bool.false_eq_true, if_true, if_false, reduceIte]
    go_enter Tryd.func17, Tryd.ntmps17
    go_wp2
    go_ret
    exact ⟨rfl, Below.refl _ _⟩
  cases h11 : (nm.toList == [82, 79, 82])
  rotate_left
  · simp only [Bool.false_eq_true, if_true, if_false, reduceIte]
    go_enter Tryd.func17, Tryd.ntmps17
    go_wp2
    go_ret
    exact ⟨rfl, Below.refl _ _⟩
  cases h12 : (nm.toList == [73, 78, 67])
  rotate_left
  · simp only [Bool.false_eq_true, if_true, if_false, reduceIte]
    go_enter Tryd.func17, Tryd.ntmps17
    go_wp2
    go_ret
    exact ⟨rfl, Below.refl _ _⟩
  cases h13 : (nm.toList == [68, 69, 67])
  rotate_left
  · simp only [Bool.false_eq_true, if_true, if_false, reduceIte]
    go_enter Tryd.func17, Tryd.ntmps17
    go_wp2
    go_ret
    exact ⟨rfl, Below.refl _ _⟩
  cases h14 : (nm.toList == [83, 76, 79])
  rotate_left
  · simp only [Bool.false_eq_true, if_true, if_false, reduceIte]
    go_enter Tryd.func17, Tryd.ntmps17
    go_wp2
    go_ret
    exact ⟨rfl, Below.refl _ _⟩
  cases h15 : (nm.toList == [82, 76, 65])
  rotate_left
  · simp only [Bool.false_eq_true, if_true, if_false, reduceIte]
    go_enter Tryd.func17, Tryd.ntmps17
    go_wp2
    go_ret
    exact ⟨rfl, Below.refl _ _⟩
  cases h16 : (nm.toList == [83, 82, 69])
  rotate_left
  · simp only [Bool.false_eq_true, if_true, if_false, reduceIte]
    go_enter Tryd.func17, Tryd.ntmps17
    go_wp2
    go_ret
    exact ⟨rfl, Below.refl _ _⟩
  cases h17 : (nm.toList == [82, 82, 65])
  rotate_left
  · simp only [Bool.false_eq_true, if_true, if_false, reduceIte]
    go_enter Tryd.func17, Tryd.ntmps17
    go_wp2
    go_ret
    exact ⟨rfl, Below.refl _ _⟩
  cases h18 : (nm.toList == [68, 67, 80])
  rotate_left
  · simp only [Bool.false_eq_true, if_true, if_false, reduceIte]
    go_enter Tryd.func17, Tryd.ntmps17
    go_wp2
    go_ret
    exact ⟨rfl, Below.refl _ _⟩
  cases h19 : (nm.toList == [73, 83, 67])
  rotate_left
  · simp only [Bool.false_eq_true, if_true, if_false, reduceIte]
    go_enter Tryd.func17, Tryd.ntmps17
    go_wp2
    go_ret
    exact ⟨rfl, Below.refl _ _⟩
  simp only [Bool.false_eq_true, if_true, if_false, reduceIte]
  go_enter Tryd.func17, Tryd.ntmps17
  go_wp2
  go_ret
  exact ⟨rfl, Below.refl _ _⟩
end Go.Proofs.YtddeakcipmhobaaDoor
