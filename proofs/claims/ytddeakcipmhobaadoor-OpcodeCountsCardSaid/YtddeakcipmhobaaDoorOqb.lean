/-
  The program's modes of opcodes, by their names and how they find what they work on. Over this seat's translation. (Written by gen_oq.py.)
-/
import Derived.Test.YtddeakcipmhobaaDoorOqa
namespace Go.Proofs.YtddeakcipmhobaaDoor
open Go.RowKit
set_option linter.unusedSimpArgs false
set_option linter.unusedVariables false
set_option maxRecDepth 20000

def aloneQ (nm : List UInt8) : Int := if (nm == [74, 83, 82]) = true then (14 : Int) else if (nm == [82, 84, 83]) = true then (15 : Int) else if (nm == [82, 84, 73]) = true then (16 : Int) else if (nm == [66, 82, 75]) = true then (17 : Int) else if (nm == [80, 72, 80]) = true then (18 : Int) else if (nm == [80, 72, 65]) = true then (18 : Int) else if (nm == [80, 76, 80]) = true then (19 : Int) else if (nm == [80, 76, 65]) = true then (19 : Int) else if (nm == [74, 65, 77]) = true then (20 : Int) else 0
set_option maxHeartbeats 8000000 in
theorem qmodealone_ct (nm : ByteArray) (w : World) :
    Calls Tryd.prog 25 #[.string nm] w fun e w' => e = .returned (.int .i64 (aloneQ nm.toList)) ∧ Below w.heap.size w w' := by
  unfold aloneQ
  cases h0 : (nm.toList == [74, 83, 82])
  rotate_left
  · simp only [Bool.false_eq_true, if_true, if_false, reduceIte]
    go_enter Tryd.func25, Tryd.ntmps25
    go_wp2
    go_ret
    exact ⟨rfl, Below.refl _ _⟩
  cases h1 : (nm.toList == [82, 84, 83])
  rotate_left
  · simp only [Bool.false_eq_true, if_true, if_false, reduceIte]
    go_enter Tryd.func25, Tryd.ntmps25
    go_wp2
    go_ret
    exact ⟨rfl, Below.refl _ _⟩
  cases h2 : (nm.toList == [82, 84, 73])
  rotate_left
  · simp only [Bool.false_eq_true, if_true, if_false, reduceIte]
    go_enter Tryd.func25, Tryd.ntmps25
    go_wp2
    go_ret
    exact ⟨rfl, Below.refl _ _⟩
  cases h3 : (nm.toList == [66, 82, 75])
  rotate_left
  · simp only [Bool.false_eq_true, if_true, if_false, reduceIte]
    go_enter Tryd.func25, Tryd.ntmps25
    go_wp2
    go_ret
    exact ⟨rfl, Below.refl _ _⟩
  cases h4 : (nm.toList == [80, 72, 80])
  rotate_left
  · simp only [Bool.false_eq_true, if_true, if_false, reduceIte]
    go_enter Tryd.func25, Tryd.ntmps25
    go_wp2
    go_ret
    exact ⟨rfl, Below.refl _ _⟩
  cases h5 : (nm.toList == [80, 72, 65])
  rotate_left
  · simp only [Bool.false_eq_true, if_true, if_false, reduceIte]
    go_enter Tryd.func25, Tryd.ntmps25
    go_wp2
    go_ret
    exact ⟨rfl, Below.refl _ _⟩
  cases h6 : (nm.toList == [80, 76, 80])
  rotate_left
  · simp only [Bool.false_eq_true, if_true, if_false, reduceIte]
    go_enter Tryd.func25, Tryd.ntmps25
    go_wp2
    go_ret
    exact ⟨rfl, Below.refl _ _⟩
  cases h7 : (nm.toList == [80, 76, 65])
  rotate_left
  · simp only [Bool.false_eq_true, if_true, if_false, reduceIte]
    go_enter Tryd.func25, Tryd.ntmps25
    go_wp2
    go_ret
    exact ⟨rfl, Below.refl _ _⟩
  cases h8 : (nm.toList == [74, 65, 77])
  rotate_left
  · simp only [Bool.false_eq_true, if_true, if_false, reduceIte]
    go_enter Tryd.func25, Tryd.ntmps25
    go_wp2
    go_ret
    exact ⟨rfl, Below.refl _ _⟩
  simp only [Bool.false_eq_true, if_true, if_false, reduceIte]
  go_enter Tryd.func25, Tryd.ntmps25
  go_wp2
  go_ret
  exact ⟨rfl, Below.refl _ _⟩
def modeQ (nm wy : List UInt8) : Int := if (wy == [97, 99, 99]) = true then 1 else if (wy == [105, 109, 109]) = true then 2 else if (wy == [122, 112, 32]) = true then 3 else if (wy == [122, 112, 120]) = true then 4 else if (wy == [122, 112, 121]) = true then 5 else if (wy == [97, 98, 115]) = true then (if (nm == [74, 77, 80]) = true then 13 else 6) else if (wy == [97, 98, 120]) = true then 7 else if (wy == [97, 98, 121]) = true then 8 else if (wy == [105, 122, 120]) = true then 9 else if (wy == [105, 122, 121]) = true then 10 else if (wy == [114, 101, 108]) = true then 11 else if (wy == [105, 110, 100]) = true then 12 else aloneQ nm
set_option maxHeartbeats 8000000 in
theorem qmodeof_ct (nm wy : ByteArray) (w : World) :
    Calls Tryd.prog 16 #[.string nm, .string wy] w fun e w' => e = .returned (.int .i64 (modeQ nm.toList wy.toList)) ∧ Below w.heap.size w w' := by
  have QA := Lib.hid (fun wr => qmodealone_ct nm wr)
  unfold modeQ
  generalize aloneQ nm.toList = al at *
  cases h0 : (wy.toList == [97, 99, 99])
  rotate_left
  · simp only [Bool.false_eq_true, if_true, if_false, reduceIte]
    go_enter Tryd.func16, Tryd.ntmps16
    go_wp2
    go_ret
    exact ⟨rfl, Below.refl _ _⟩
  cases h1 : (wy.toList == [105, 109, 109])
  rotate_left
  · simp only [Bool.false_eq_true, if_true, if_false, reduceIte]
    go_enter Tryd.func16, Tryd.ntmps16
    go_wp2
    go_ret
    exact ⟨rfl, Below.refl _ _⟩
  cases h2 : (wy.toList == [122, 112, 32])
  rotate_left
  · simp only [Bool.false_eq_true, if_true, if_false, reduceIte]
    go_enter Tryd.func16, Tryd.ntmps16
    go_wp2
    go_ret
    exact ⟨rfl, Below.refl _ _⟩
  cases h3 : (wy.toList == [122, 112, 120])
  rotate_left
  · simp only [Bool.false_eq_true, if_true, if_false, reduceIte]
    go_enter Tryd.func16, Tryd.ntmps16
    go_wp2
    go_ret
    exact ⟨rfl, Below.refl _ _⟩
  cases h4 : (wy.toList == [122, 112, 121])
  rotate_left
  · simp only [Bool.false_eq_true, if_true, if_false, reduceIte]
    go_enter Tryd.func16, Tryd.ntmps16
    go_wp2
    go_ret
    exact ⟨rfl, Below.refl _ _⟩
  cases h5 : (wy.toList == [97, 98, 115])
  rotate_left
  · simp only [Bool.false_eq_true, if_true, if_false, reduceIte]
    cases hj : (nm.toList == [74, 77, 80])
    all_goals
      simp only [Bool.false_eq_true, if_true, if_false, reduceIte]
      go_enter Tryd.func16, Tryd.ntmps16
      go_wp2
      go_ret
      exact ⟨rfl, Below.refl _ _⟩
  cases h6 : (wy.toList == [97, 98, 120])
  rotate_left
  · simp only [Bool.false_eq_true, if_true, if_false, reduceIte]
    go_enter Tryd.func16, Tryd.ntmps16
    go_wp2
    go_ret
    exact ⟨rfl, Below.refl _ _⟩
  cases h7 : (wy.toList == [97, 98, 121])
  rotate_left
  · simp only [Bool.false_eq_true, if_true, if_false, reduceIte]
    go_enter Tryd.func16, Tryd.ntmps16
    go_wp2
    go_ret
    exact ⟨rfl, Below.refl _ _⟩
  cases h8 : (wy.toList == [105, 122, 120])
  rotate_left
  · simp only [Bool.false_eq_true, if_true, if_false, reduceIte]
    go_enter Tryd.func16, Tryd.ntmps16
    go_wp2
    go_ret
    exact ⟨rfl, Below.refl _ _⟩
  cases h9 : (wy.toList == [105, 122, 121])
  rotate_left
  · simp only [Bool.false_eq_true, if_true, if_false, reduceIte]
    go_enter Tryd.func16, Tryd.ntmps16
    go_wp2
    go_ret
    exact ⟨rfl, Below.refl _ _⟩
  cases h10 : (wy.toList == [114, 101, 108])
  rotate_left
  · simp only [Bool.false_eq_true, if_true, if_false, reduceIte]
    go_enter Tryd.func16, Tryd.ntmps16
    go_wp2
    go_ret
    exact ⟨rfl, Below.refl _ _⟩
  cases h11 : (wy.toList == [105, 110, 100])
  rotate_left
  · simp only [Bool.false_eq_true, if_true, if_false, reduceIte]
    go_enter Tryd.func16, Tryd.ntmps16
    go_wp2
    go_ret
    exact ⟨rfl, Below.refl _ _⟩
  simp only [Bool.false_eq_true, if_true, if_false, reduceIte]
  go_enter Tryd.func16, Tryd.ntmps16
  go_wp2_with (first | (go_at_call 25; (with_reducible refine (QA.out _).mono ?_); rintro e w2 ⟨rfl, hB⟩) | fail)
  go_ret
  exact ⟨rfl, hB⟩
end Go.Proofs.YtddeakcipmhobaaDoor
