/-
  Which opcodes are official, as the program tells it. Over this seat's translation. (Written by gen_oq.py.)
-/
import Derived.Test.YtddeakcipmhobaaDoorOqa
namespace Go.Proofs.YtddeakcipmhobaaDoor
open Go.RowKit
set_option linter.unusedSimpArgs false
set_option linter.unusedVariables false
set_option maxRecDepth 20000

def goodQ (op : Int) (nm : List UInt8) : Bool := if (nm == [78, 79, 80]) = true then (op == 234) else if (nm == [83, 66, 67]) = true then (op != 235) else if (nm == [65, 76, 82]) = true then false else if (nm == [65, 78, 67]) = true then false else if (nm == [65, 78, 69]) = true then false else if (nm == [65, 82, 82]) = true then false else if (nm == [68, 67, 80]) = true then false else if (nm == [73, 83, 67]) = true then false else if (nm == [74, 65, 77]) = true then false else if (nm == [76, 65, 83]) = true then false else if (nm == [76, 65, 88]) = true then false else if (nm == [76, 88, 65]) = true then false else if (nm == [82, 76, 65]) = true then false else if (nm == [82, 82, 65]) = true then false else if (nm == [83, 65, 88]) = true then false else if (nm == [83, 66, 88]) = true then false else if (nm == [83, 72, 65]) = true then false else if (nm == [83, 72, 88]) = true then false else if (nm == [83, 72, 89]) = true then false else if (nm == [83, 76, 79]) = true then false else if (nm == [83, 82, 69]) = true then false else if (nm == [84, 65, 83]) = true then false else true
set_option maxHeartbeats 8000000 in
theorem qofficial_ct (op : Int) (nm : ByteArray) (w : World) :
    Calls Tryd.prog 19 #[.int .u8 op, .string nm] w fun e w' => e = .returned (.bool (goodQ op nm.toList)) ∧ Below w.heap.size w w' := by
  unfold goodQ
  cases h0 : (nm.toList == [78, 79, 80])
  rotate_left
  · simp only [Bool.false_eq_true, if_true, if_false, reduceIte]
    go_enter Tryd.func19, Tryd.ntmps19
    go_wp2
    go_ret
    exact ⟨rfl, Below.refl _ _⟩
  cases h1 : (nm.toList == [83, 66, 67])
  rotate_left
  · simp only [Bool.false_eq_true, if_true, if_false, reduceIte]
    go_enter Tryd.func19, Tryd.ntmps19
    go_wp2
    go_ret
    exact ⟨rfl, Below.refl _ _⟩
  cases h2 : (nm.toList == [65, 76, 82])
  rotate_left
  · simp only [Bool.false_eq_true, if_true, if_false, reduceIte]
    go_enter Tryd.func19, Tryd.ntmps19
    go_wp2
    go_ret
    exact ⟨rfl, Below.refl _ _⟩
  cases h3 : (nm.toList == [65, 78, 67])
  rotate_left
  · simp only [Bool.false_eq_true, if_true, if_false, reduceIte]
    go_enter Tryd.func19, Tryd.ntmps19
    go_wp2
    go_ret
    exact ⟨rfl, Below.refl _ _⟩
  cases h4 : (nm.toList == [65, 78, 69])
  rotate_left
  · simp only [Bool.false_eq_true, if_true, if_false, reduceIte]
    go_enter Tryd.func19, Tryd.ntmps19
    go_wp2
    go_ret
    exact ⟨rfl, Below.refl _ _⟩
  cases h5 : (nm.toList == [65, 82, 82])
  rotate_left
  · simp only [Bool.false_eq_true, if_true, if_false, reduceIte]
    go_enter Tryd.func19, Tryd.ntmps19
    go_wp2
    go_ret
    exact ⟨rfl, Below.refl _ _⟩
  cases h6 : (nm.toList == [68, 67, 80])
  rotate_left
  · simp only [Bool.false_eq_true, if_true, if_false, reduceIte]
    go_enter Tryd.func19, Tryd.ntmps19
    go_wp2
    go_ret
    exact ⟨rfl, Below.refl _ _⟩
  cases h7 : (nm.toList == [73, 83, 67])
  rotate_left
  · simp only [Bool.false_eq_true, if_true, if_false, reduceIte]
    go_enter Tryd.func19, Tryd.ntmps19
    go_wp2
    go_ret
    exact ⟨rfl, Below.refl _ _⟩
  cases h8 : (nm.toList == [74, 65, 77])
  rotate_left
  · simp only [Bool.false_eq_true, if_true, if_false, reduceIte]
    go_enter Tryd.func19, Tryd.ntmps19
    go_wp2
    go_ret
    exact ⟨rfl, Below.refl _ _⟩
  cases h9 : (nm.toList == [76, 65, 83])
  rotate_left
  · simp only [Bool.false_eq_true, if_true, if_false, reduceIte]
    go_enter Tryd.func19, Tryd.ntmps19
    go_wp2
    go_ret
    exact ⟨rfl, Below.refl _ _⟩
  cases h10 : (nm.toList == [76, 65, 88])
  rotate_left
  · simp only [Bool.false_eq_true, if_true, if_false, reduceIte]
    go_enter Tryd.func19, Tryd.ntmps19
    go_wp2
    go_ret
    exact ⟨rfl, Below.refl _ _⟩
  cases h11 : (nm.toList == [76, 88, 65])
  rotate_left
  · simp only [Bool.false_eq_true, if_true, if_false, reduceIte]
    go_enter Tryd.func19, Tryd.ntmps19
    go_wp2
    go_ret
    exact ⟨rfl, Below.refl _ _⟩
  cases h12 : (nm.toList == [82, 76, 65])
  rotate_left
  · simp only [Bool.false_eq_true, if_true, if_false, reduceIte]
    go_enter Tryd.func19, Tryd.ntmps19
    go_wp2
    go_ret
    exact ⟨rfl, Below.refl _ _⟩
  cases h13 : (nm.toList == [82, 82, 65])
  rotate_left
  · simp only [Bool.false_eq_true, if_true, if_false, reduceIte]
    go_enter Tryd.func19, Tryd.ntmps19
    go_wp2
    go_ret
    exact ⟨rfl, Below.refl _ _⟩
  cases h14 : (nm.toList == [83, 65, 88])
  rotate_left
  · simp only [Bool.false_eq_true, if_true, if_false, reduceIte]
    go_enter Tryd.func19, Tryd.ntmps19
    go_wp2
    go_ret
    exact ⟨rfl, Below.refl _ _⟩
  cases h15 : (nm.toList == [83, 66, 88])
  rotate_left
  · simp only [Bool.false_eq_true, if_true, if_false, reduceIte]
    go_enter Tryd.func19, Tryd.ntmps19
    go_wp2
    go_ret
    exact ⟨rfl, Below.refl _ _⟩
  cases h16 : (nm.toList == [83, 72, 65])
  rotate_left
  · simp only [Bool.false_eq_true, if_true, if_false, reduceIte]
    go_enter Tryd.func19, Tryd.ntmps19
    go_wp2
    go_ret
    exact ⟨rfl, Below.refl _ _⟩
  cases h17 : (nm.toList == [83, 72, 88])
  rotate_left
  · simp only [Bool.false_eq_true, if_true, if_false, reduceIte]
    go_enter Tryd.func19, Tryd.ntmps19
    go_wp2
    go_ret
    exact ⟨rfl, Below.refl _ _⟩
  cases h18 : (nm.toList == [83, 72, 89])
  rotate_left
  · simp only [Bool.false_eq_true, if_true, if_false, reduceIte]
    go_enter Tryd.func19, Tryd.ntmps19
    go_wp2
    go_ret
    exact ⟨rfl, Below.refl _ _⟩
  cases h19 : (nm.toList == [83, 76, 79])
  rotate_left
  · simp only [Bool.false_eq_true, if_true, if_false, reduceIte]
    go_enter Tryd.func19, Tryd.ntmps19
    go_wp2
    go_ret
    exact ⟨rfl, Below.refl _ _⟩
  cases h20 : (nm.toList == [83, 82, 69])
  rotate_left
  · simp only [Bool.false_eq_true, if_true, if_false, reduceIte]
    go_enter Tryd.func19, Tryd.ntmps19
    go_wp2
    go_ret
    exact ⟨rfl, Below.refl _ _⟩
  cases h21 : (nm.toList == [84, 65, 83])
  rotate_left
  · simp only [Bool.false_eq_true, if_true, if_false, reduceIte]
    go_enter Tryd.func19, Tryd.ntmps19
    go_wp2
    go_ret
    exact ⟨rfl, Below.refl _ _⟩
  simp only [Bool.false_eq_true, if_true, if_false, reduceIte]
  go_enter Tryd.func19, Tryd.ntmps19
  go_wp2
  go_ret
  exact ⟨rfl, Below.refl _ _⟩
end Go.Proofs.YtddeakcipmhobaaDoor
