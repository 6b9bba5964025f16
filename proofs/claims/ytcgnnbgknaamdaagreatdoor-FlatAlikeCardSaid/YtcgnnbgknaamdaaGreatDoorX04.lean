/-
  Several texts in one: what is read and written by the functions on the way to the statements. Conditions stand in each theorem.
-/
import Derived.Test.YtcgnnbgknaamdaaGreatDoorX03
import Derived.Test.YtcgnnbgknaamdaaGreatDoorX02
namespace Go.Proofs.YtcgnnbgknaamdaaGreatDoor
open Go.RowKit
set_option linter.unusedSimpArgs false
set_option linter.unusedVariables false
set_option maxRecDepth 20000

def aloneQ (nm : List UInt8) : Int := if (nm == [74, 83, 82]) = true then (14 : Int) else if (nm == [82, 84, 83]) = true then (15 : Int) else if (nm == [82, 84, 73]) = true then (16 : Int) else if (nm == [66, 82, 75]) = true then (17 : Int) else if (nm == [80, 72, 80]) = true then (18 : Int) else if (nm == [80, 72, 65]) = true then (18 : Int) else if (nm == [80, 76, 80]) = true then (19 : Int) else if (nm == [80, 76, 65]) = true then (19 : Int) else if (nm == [74, 65, 77]) = true then (20 : Int) else 0
set_option maxHeartbeats 8000000 in
theorem qmodealone_ct (nm : ByteArray) (w : World) :
    Calls Tryz.prog 41 #[.string nm] w fun e w' => e = .returned (.int .i64 (aloneQ nm.toList)) ∧ Below w.heap.size w w' := by
  unfold aloneQ
  cases h0 : (nm.toList == [74, 83, 82])
  rotate_left
  · simp only [Bool.false_eq_true, if_true, if_false, reduceIte]
    go_enter Tryz.func41, Tryz.ntmps41
    go_wp2
    go_ret
    exact ⟨rfl, Below.refl _ _⟩
  cases h1 : (nm.toList == [82, 84, 83])
  rotate_left
  · simp only [Bool.false_eq_true, if_true, if_false, reduceIte]
    go_enter Tryz.func41, Tryz.ntmps41
    go_wp2
    go_ret
    exact ⟨rfl, Below.refl _ _⟩
  cases h2 : (nm.toList == [82, 84, 73])
  rotate_left
  · simp only [Bool.false_eq_true, if_true, if_false, reduceIte]
    go_enter Tryz.func41, Tryz.ntmps41
    go_wp2
    go_ret
    exact ⟨rfl, Below.refl _ _⟩
  cases h3 : (nm.toList == [66, 82, 75])
  rotate_left
  · simp only [Bool.false_eq_true, if_true, if_false, reduceIte]
    go_enter Tryz.func41, Tryz.ntmps41
    go_wp2
    go_ret
    exact ⟨rfl, Below.refl _ _⟩
  cases h4 : (nm.toList == [80, 72, 80])
  rotate_left
  · simp only [Bool.false_eq_true, if_true, if_false, reduceIte]
    go_enter Tryz.func41, Tryz.ntmps41
    go_wp2
    go_ret
    exact ⟨rfl, Below.refl _ _⟩
  cases h5 : (nm.toList == [80, 72, 65])
  rotate_left
  · simp only [Bool.false_eq_true, if_true, if_false, reduceIte]
    go_enter Tryz.func41, Tryz.ntmps41
    go_wp2
    go_ret
    exact ⟨rfl, Below.refl _ _⟩
  cases h6 : (nm.toList == [80, 76, 80])
  rotate_left
  · simp only [Bool.false_eq_true, if_true, if_false, reduceIte]
    go_enter Tryz.func41, Tryz.ntmps41
    go_wp2
    go_ret
    exact ⟨rfl, Below.refl _ _⟩
  cases h7 : (nm.toList == [80, 76, 65])
  rotate_left
  · simp only [Bool.false_eq_true, if_true, if_false, reduceIte]
    go_enter Tryz.func41, Tryz.ntmps41
    go_wp2
    go_ret
    exact ⟨rfl, Below.refl _ _⟩
  cases h8 : (nm.toList == [74, 65, 77])
  rotate_left
  · simp only [Bool.false_eq_true, if_true, if_false, reduceIte]
    go_enter Tryz.func41, Tryz.ntmps41
    go_wp2
    go_ret
    exact ⟨rfl, Below.refl _ _⟩
  simp only [Bool.false_eq_true, if_true, if_false, reduceIte]
  go_enter Tryz.func41, Tryz.ntmps41
  go_wp2
  go_ret
  exact ⟨rfl, Below.refl _ _⟩
def modeQ (nm wy : List UInt8) : Int := if (wy == [97, 99, 99]) = true then 1 else if (wy == [105, 109, 109]) = true then 2 else if (wy == [122, 112, 32]) = true then 3 else if (wy == [122, 112, 120]) = true then 4 else if (wy == [122, 112, 121]) = true then 5 else if (wy == [97, 98, 115]) = true then (if (nm == [74, 77, 80]) = true then 13 else 6) else if (wy == [97, 98, 120]) = true then 7 else if (wy == [97, 98, 121]) = true then 8 else if (wy == [105, 122, 120]) = true then 9 else if (wy == [105, 122, 121]) = true then 10 else if (wy == [114, 101, 108]) = true then 11 else if (wy == [105, 110, 100]) = true then 12 else aloneQ nm
set_option maxHeartbeats 8000000 in
theorem qmodeof_ct (nm wy : ByteArray) (w : World) :
    Calls Tryz.prog 32 #[.string nm, .string wy] w fun e w' => e = .returned (.int .i64 (modeQ nm.toList wy.toList)) ∧ Below w.heap.size w w' := by
  have QA := Lib.hid (fun wr => qmodealone_ct nm wr)
  unfold modeQ
  generalize aloneQ nm.toList = al at *
  cases h0 : (wy.toList == [97, 99, 99])
  rotate_left
  · simp only [Bool.false_eq_true, if_true, if_false, reduceIte]
    go_enter Tryz.func32, Tryz.ntmps32
    go_wp2
    go_ret
    exact ⟨rfl, Below.refl _ _⟩
  cases h1 : (wy.toList == [105, 109, 109])
  rotate_left
  · simp only [Bool.false_eq_true, if_true, if_false, reduceIte]
    go_enter Tryz.func32, Tryz.ntmps32
    go_wp2
    go_ret
    exact ⟨rfl, Below.refl _ _⟩
  cases h2 : (wy.toList == [122, 112, 32])
  rotate_left
  · simp only [Bool.false_eq_true, if_true, if_false, reduceIte]
    go_enter Tryz.func32, Tryz.ntmps32
    go_wp2
    go_ret
    exact ⟨rfl, Below.refl _ _⟩
  cases h3 : (wy.toList == [122, 112, 120])
  rotate_left
  · simp only [Bool.false_eq_true, if_true, if_false, reduceIte]
    go_enter Tryz.func32, Tryz.ntmps32
    go_wp2
    go_ret
    exact ⟨rfl, Below.refl _ _⟩
  cases h4 : (wy.toList == [122, 112, 121])
  rotate_left
  · simp only [Bool.false_eq_true, if_true, if_false, reduceIte]
    go_enter Tryz.func32, Tryz.ntmps32
    go_wp2
    go_ret
    exact ⟨rfl, Below.refl _ _⟩
  cases h5 : (wy.toList == [97, 98, 115])
  rotate_left
  · simp only [Bool.false_eq_true, if_true, if_false, reduceIte]
    cases hj : (nm.toList == [74, 77, 80])
    all_goals
      simp only [Bool.false_eq_true, if_true, if_false, reduceIte]
      go_enter Tryz.func32, Tryz.ntmps32
      go_wp2
      go_ret
      exact ⟨rfl, Below.refl _ _⟩
  cases h6 : (wy.toList == [97, 98, 120])
  rotate_left
  · simp only [Bool.false_eq_true, if_true, if_false, reduceIte]
    go_enter Tryz.func32, Tryz.ntmps32
    go_wp2
    go_ret
    exact ⟨rfl, Below.refl _ _⟩
  cases h7 : (wy.toList == [97, 98, 121])
  rotate_left
  · simp only [Bool.false_eq_true, if_true, if_false, reduceIte]
    go_enter Tryz.func32, Tryz.ntmps32
    go_wp2
    go_ret
    exact ⟨rfl, Below.refl _ _⟩
  cases h8 : (wy.toList == [105, 122, 120])
  rotate_left
  · simp only [Bool.false_eq_true, if_true, if_false, reduceIte]
    go_enter Tryz.func32, Tryz.ntmps32
    go_wp2
    go_ret
    exact ⟨rfl, Below.refl _ _⟩
  cases h9 : (wy.toList == [105, 122, 121])
  rotate_left
  · simp only [Bool.false_eq_true, if_true, if_false, reduceIte]
    go_enter Tryz.func32, Tryz.ntmps32
    go_wp2
    go_ret
    exact ⟨rfl, Below.refl _ _⟩
  cases h10 : (wy.toList == [114, 101, 108])
  rotate_left
  · simp only [Bool.false_eq_true, if_true, if_false, reduceIte]
    go_enter Tryz.func32, Tryz.ntmps32
    go_wp2
    go_ret
    exact ⟨rfl, Below.refl _ _⟩
  cases h11 : (wy.toList == [105, 110, 100])
  rotate_left
  · simp only [Bool.false_eq_true, if_true, if_false, reduceIte]
    go_enter Tryz.func32, Tryz.ntmps32
    go_wp2
    go_ret
    exact ⟨rfl, Below.refl _ _⟩
  simp only [Bool.false_eq_true, if_true, if_false, reduceIte]
  go_enter Tryz.func32, Tryz.ntmps32
  go_wp2_with (first | (go_at_call 41; (with_reducible refine (QA.out _).mono ?_); rintro e w2 ⟨rfl, hB⟩) | fail)
  go_ret
  exact ⟨rfl, hB⟩
end Go.Proofs.YtcgnnbgknaamdaaGreatDoor
namespace Go.Proofs.YtcgnnbgknaamdaaGreatDoor
open Go.RowKit
set_option linter.unusedSimpArgs false
set_option linter.unusedVariables false
set_option maxRecDepth 20000

def usedQ (nm : List UInt8) : Int := if (nm == [83, 84, 65]) = true then 2 else if (nm == [83, 84, 88]) = true then 2 else if (nm == [83, 84, 89]) = true then 2 else if (nm == [83, 65, 88]) = true then 2 else if (nm == [83, 72, 65]) = true then 2 else if (nm == [83, 72, 88]) = true then 2 else if (nm == [83, 72, 89]) = true then 2 else if (nm == [84, 65, 83]) = true then 2 else if (nm == [65, 83, 76]) = true then 3 else if (nm == [76, 83, 82]) = true then 3 else if (nm == [82, 79, 76]) = true then 3 else if (nm == [82, 79, 82]) = true then 3 else if (nm == [73, 78, 67]) = true then 3 else if (nm == [68, 69, 67]) = true then 3 else if (nm == [83, 76, 79]) = true then 3 else if (nm == [82, 76, 65]) = true then 3 else if (nm == [83, 82, 69]) = true then 3 else if (nm == [82, 82, 65]) = true then 3 else if (nm == [68, 67, 80]) = true then 3 else if (nm == [73, 83, 67]) = true then 3 else 1
def useQ (nm : List UInt8) (m : Int) : Int := if m = 2 then 1 else if m < 3 ∨ 10 < m then 0 else usedQ nm
set_option maxHeartbeats 16000000 in
theorem quseof_ct (nm : ByteArray) (m : Int) (w : World) :
    Calls Tryz.prog 33 #[.string nm, .int .i64 m] w fun e w' => e = .returned (.int .i64 (useQ nm.toList m)) ∧ Below w.heap.size w w' := by
  have hm : m = 2 ∨ m < 2 ∨ 10 < m ∨ (3 ≤ m ∧ m ≤ 10) := by omega
  unfold useQ
  rcases hm with rfl | hm | hm | ⟨hm, hn⟩
  · rw [if_pos rfl]
    go_enter Tryz.func33, Tryz.ntmps33
    go_wp2
    go_ret
    exact ⟨rfl, Below.refl _ _⟩
  · rw [if_neg (by omega), if_pos (by omega)]
    have e1 : (m == 2) = false := by simp; omega
    have e2 : decide (m < 3) = true := decide_eq_true (by omega)
    go_enter Tryz.func33, Tryz.ntmps33
    go_wp2
    go_ret
    exact ⟨rfl, Below.refl _ _⟩
  · rw [if_neg (by omega), if_pos (by omega)]
    have e1 : (m == 2) = false := by simp; omega
    have e2 : decide (m < 3) = false := decide_eq_false (by omega)
    have e3 : decide (10 < m) = true := decide_eq_true (by omega)
    go_enter Tryz.func33, Tryz.ntmps33
    go_wp2
    go_ret
    exact ⟨rfl, Below.refl _ _⟩
  rw [if_neg (by omega), if_neg (by omega)]
  have e1 : (m == 2) = false := by simp; omega
  have e2 : decide (m < 3) = false := decide_eq_false (by omega)
  have e3 : decide (10 < m) = false := decide_eq_false (by omega)
  unfold usedQ
  cases h0 : (nm.toList == [83, 84, 65])
  rotate_left
  · simp only [Bool.false_eq_true, if_true, if_false, reduceIte]
    go_enter Tryz.func33, Tryz.ntmps33
    go_wp2
    go_ret
    exact ⟨rfl, Below.refl _ _⟩
  cases h1 : (nm.toList == [83, 84, 88])
  rotate_left
  · simp only [Bool.false_eq_true, if_true, if_false, reduceIte]
    go_enter Tryz.func33, Tryz.ntmps33
    go_wp2
    go_ret
    exact ⟨rfl, Below.refl _ _⟩
  cases h2 : (nm.toList == [83, 84, 89])
  rotate_left
  · simp only [Bool.false_eq_true, if_true, if_false, reduceIte]
    go_enter Tryz.func33, Tryz.ntmps33
    go_wp2
    go_ret
    exact ⟨rfl, Below.refl _ _⟩
  cases h3 : (nm.toList == [83, 65, 88])
  rotate_left
  · simp only [Bool.false_eq_true, if_true, if_false, reduceIte]
    go_enter Tryz.func33, Tryz.ntmps33
    go_wp2
    go_ret
    exact ⟨rfl, Below.refl _ _⟩
  cases h4 : (nm.toList == [83, 72, 65])
  rotate_left
  · simp only [Bool.false_eq_true, if_true, if_false, reduceIte]
    go_enter Tryz.func33, Tryz.ntmps33
    go_wp2
    go_ret
    exact ⟨rfl, Below.refl _ _⟩
  cases h5 : (nm.toList == [83, 72, 88])
  rotate_left
  · simp only [Bool.false_eq_true, if_true, if_false, reduceIte]
    go_enter Tryz.func33, Tryz.ntmps33
    go_wp2
    go_ret
    exact ⟨rfl, Below.refl _ _⟩
  cases h6 : (nm.toList == [83, 72, 89])
  rotate_left
  · simp only [Bool.false_eq_true, if_true, if_false, reduceIte]
    go_enter Tryz.func33, Tryz.ntmps33
    go_wp2
    go_ret
    exact ⟨rfl, Below.refl _ _⟩
  cases h7 : (nm.toList == [84, 65, 83])
  rotate_left
  · simp only [Bool.false_eq_true, if_true, if_false, reduceIte]
    go_enter Tryz.func33, Tryz.ntmps33
    go_wp2
    go_ret
    exact ⟨rfl, Below.refl _ _⟩
  cases h8 : (nm.toList == [65, 83, 76])
  rotate_left
  · simp only [Bool.false_eq_true, if_true, if_false, reduceIte]
    go_enter Tryz.func33, Tryz.ntmps33
    go_wp2
    go_ret
    exact ⟨rfl, Below.refl _ _⟩
  cases h9 : (nm.toList == [76, 83, 82])
  rotate_left
  · simp only [Bool.false_eq_true, if_true, if_false, reduceIte]
    go_enter Tryz.func33, Tryz.ntmps33
    go_wp2
    go_ret
    exact ⟨rfl, Below.refl _ _⟩
  cases h10 : (nm.toList == [82, 79, 76])
  rotate_left
  · simp only [Bool.false_eq_true, if_true, if_false, reduceIte]
    go_enter Tryz.func33, Tryz.ntmps33
    go_wp2
    go_ret
    exact ⟨rfl, Below.refl _ _⟩
  cases h11 : (nm.toList == [82, 79, 82])
  rotate_left
  · simp only [Bool.false_eq_true, if_true, if_false, reduceIte]
    go_enter Tryz.func33, Tryz.ntmps33
    go_wp2
    go_ret
    exact ⟨rfl, Below.refl _ _⟩
  cases h12 : (nm.toList == [73, 78, 67])
  rotate_left
  · simp only [Bool.false_eq_true, if_true, if_false, reduceIte]
    go_enter Tryz.func33, Tryz.ntmps33
    go_wp2
    go_ret
    exact ⟨rfl, Below.refl _ _⟩
  cases h13 : (nm.toList == [68, 69, 67])
  rotate_left
  · simp only [Bool.false_eq_true, if_true, if_false, reduceIte]
    go_enter Tryz.func33, Tryz.ntmps33
    go_wp2
    go_ret
    exact ⟨rfl, Below.refl _ _⟩
  cases h14 : (nm.toList == [83, 76, 79])
  rotate_left
  · simp only [Bool.false_eq_true, if_true, if_false, reduceIte]
    go_enter Tryz.func33, Tryz.ntmps33
    go_wp2
    go_ret
    exact ⟨rfl, Below.refl _ _⟩
  cases h15 : (nm.toList == [82, 76, 65])
  rotate_left
  · simp only [Bool.false_eq_true, if_true, if_false, reduceIte]
    go_enter Tryz.func33, Tryz.ntmps33
    go_wp2
    go_ret
    exact ⟨rfl, Below.refl _ _⟩
  cases h16 : (nm.toList == [83, 82, 69])
  rotate_left
  · simp only [Bool.false_eq_true, if_true, if_false, reduceIte]
    go_enter Tryz.func33, Tryz.ntmps33
    go_wp2
    go_ret
    exact ⟨rfl, Below.refl _ _⟩
  cases h17 : (nm.toList == [82, 82, 65])
  rotate_left
  · simp only [Bool.false_eq_true, if_true, if_false, reduceIte]
    go_enter Tryz.func33, Tryz.ntmps33
    go_wp2
    go_ret
    exact ⟨rfl, Below.refl _ _⟩
  cases h18 : (nm.toList == [68, 67, 80])
  rotate_left
  · simp only [Bool.false_eq_true, if_true, if_false, reduceIte]
    go_enter Tryz.func33, Tryz.ntmps33
    go_wp2
    go_ret
    exact ⟨rfl, Below.refl _ _⟩
  cases h19 : (nm.toList == [73, 83, 67])
  rotate_left
  · simp only [Bool.false_eq_true, if_true, if_false, reduceIte]
    go_enter Tryz.func33, Tryz.ntmps33
    go_wp2
    go_ret
    exact ⟨rfl, Below.refl _ _⟩
  simp only [Bool.false_eq_true, if_true, if_false, reduceIte]
  go_enter Tryz.func33, Tryz.ntmps33
  go_wp2
  go_ret
  exact ⟨rfl, Below.refl _ _⟩
end Go.Proofs.YtcgnnbgknaamdaaGreatDoor
namespace Go.Proofs.YtcgnnbgknaamdaaGreatDoor
open Go.RowKit
set_option linter.unusedSimpArgs false
set_option linter.unusedVariables false
set_option maxRecDepth 20000

def goodQ (op : Int) (nm : List UInt8) : Bool := if (nm == [78, 79, 80]) = true then (op == 234) else if (nm == [83, 66, 67]) = true then (op != 235) else if (nm == [65, 76, 82]) = true then false else if (nm == [65, 78, 67]) = true then false else if (nm == [65, 78, 69]) = true then false else if (nm == [65, 82, 82]) = true then false else if (nm == [68, 67, 80]) = true then false else if (nm == [73, 83, 67]) = true then false else if (nm == [74, 65, 77]) = true then false else if (nm == [76, 65, 83]) = true then false else if (nm == [76, 65, 88]) = true then false else if (nm == [76, 88, 65]) = true then false else if (nm == [82, 76, 65]) = true then false else if (nm == [82, 82, 65]) = true then false else if (nm == [83, 65, 88]) = true then false else if (nm == [83, 66, 88]) = true then false else if (nm == [83, 72, 65]) = true then false else if (nm == [83, 72, 88]) = true then false else if (nm == [83, 72, 89]) = true then false else if (nm == [83, 76, 79]) = true then false else if (nm == [83, 82, 69]) = true then false else if (nm == [84, 65, 83]) = true then false else true
set_option maxHeartbeats 8000000 in
theorem qofficial_ct (op : Int) (nm : ByteArray) (w : World) :
    Calls Tryz.prog 35 #[.int .u8 op, .string nm] w fun e w' => e = .returned (.bool (goodQ op nm.toList)) ∧ Below w.heap.size w w' := by
  unfold goodQ
  cases h0 : (nm.toList == [78, 79, 80])
  rotate_left
  · simp only [Bool.false_eq_true, if_true, if_false, reduceIte]
    go_enter Tryz.func35, Tryz.ntmps35
    go_wp2
    go_ret
    exact ⟨rfl, Below.refl _ _⟩
  cases h1 : (nm.toList == [83, 66, 67])
  rotate_left
  · simp only [Bool.false_eq_true, if_true, if_false, reduceIte]
    go_enter Tryz.func35, Tryz.ntmps35
    go_wp2
    go_ret
    exact ⟨rfl, Below.refl _ _⟩
  cases h2 : (nm.toList == [65, 76, 82])
  rotate_left
  · simp only [Bool.false_eq_true, if_true, if_false, reduceIte]
    go_enter Tryz.func35, Tryz.ntmps35
    go_wp2
    go_ret
    exact ⟨rfl, Below.refl _ _⟩
  cases h3 : (nm.toList == [65, 78, 67])
  rotate_left
  · simp only [Bool.false_eq_true, if_true, if_false, reduceIte]
    go_enter Tryz.func35, Tryz.ntmps35
    go_wp2
    go_ret
    exact ⟨rfl, Below.refl _ _⟩
  cases h4 : (nm.toList == [65, 78, 69])
  rotate_left
  · simp only [Bool.false_eq_true, if_true, if_false, reduceIte]
    go_enter Tryz.func35, Tryz.ntmps35
    go_wp2
    go_ret
    exact ⟨rfl, Below.refl _ _⟩
  cases h5 : (nm.toList == [65, 82, 82])
  rotate_left
  · simp only [Bool.false_eq_true, if_true, if_false, reduceIte]
    go_enter Tryz.func35, Tryz.ntmps35
    go_wp2
    go_ret
    exact ⟨rfl, Below.refl _ _⟩
  cases h6 : (nm.toList == [68, 67, 80])
  rotate_left
  · simp only [Bool.false_eq_true, if_true, if_false, reduceIte]
    go_enter Tryz.func35, Tryz.ntmps35
    go_wp2
    go_ret
    exact ⟨rfl, Below.refl _ _⟩
  cases h7 : (nm.toList == [73, 83, 67])
  rotate_left
  · simp only [Bool.false_eq_true, if_true, if_false, reduceIte]
    go_enter Tryz.func35, Tryz.ntmps35
    go_wp2
    go_ret
    exact ⟨rfl, Below.refl _ _⟩
  cases h8 : (nm.toList == [74, 65, 77])
  rotate_left
  · simp only [Bool.false_eq_true, if_true, if_false, reduceIte]
    go_enter Tryz.func35, Tryz.ntmps35
    go_wp2
    go_ret
    exact ⟨rfl, Below.refl _ _⟩
  cases h9 : (nm.toList == [76, 65, 83])
  rotate_left
  · simp only [Bool.false_eq_true, if_true, if_false, reduceIte]
    go_enter Tryz.func35, Tryz.ntmps35
    go_wp2
    go_ret
    exact ⟨rfl, Below.refl _ _⟩
  cases h10 : (nm.toList == [76, 65, 88])
  rotate_left
  · simp only [Bool.false_eq_true, if_true, if_false, reduceIte]
    go_enter Tryz.func35, Tryz.ntmps35
    go_wp2
    go_ret
    exact ⟨rfl, Below.refl _ _⟩
  cases h11 : (nm.toList == [76, 88, 65])
  rotate_left
  · simp only [Bool.false_eq_true, if_true, if_false, reduceIte]
    go_enter Tryz.func35, Tryz.ntmps35
    go_wp2
    go_ret
    exact ⟨rfl, Below.refl _ _⟩
  cases h12 : (nm.toList == [82, 76, 65])
  rotate_left
  · simp only [Bool.false_eq_true, if_true, if_false, reduceIte]
    go_enter Tryz.func35, Tryz.ntmps35
    go_wp2
    go_ret
    exact ⟨rfl, Below.refl _ _⟩
  cases h13 : (nm.toList == [82, 82, 65])
  rotate_left
  · simp only [Bool.false_eq_true, if_true, if_false, reduceIte]
    go_enter Tryz.func35, Tryz.ntmps35
    go_wp2
    go_ret
    exact ⟨rfl, Below.refl _ _⟩
  cases h14 : (nm.toList == [83, 65, 88])
  rotate_left
  · simp only [Bool.false_eq_true, if_true, if_false, reduceIte]
    go_enter Tryz.func35, Tryz.ntmps35
    go_wp2
    go_ret
    exact ⟨rfl, Below.refl _ _⟩
  cases h15 : (nm.toList == [83, 66, 88])
  rotate_left
  · simp only [Bool.false_eq_true, if_true, if_false, reduceIte]
    go_enter Tryz.func35, Tryz.ntmps35
    go_wp2
    go_ret
    exact ⟨rfl, Below.refl _ _⟩
  cases h16 : (nm.toList == [83, 72, 65])
  rotate_left
  · simp only [Bool.false_eq_true, if_true, if_false, reduceIte]
    go_enter Tryz.func35, Tryz.ntmps35
    go_wp2
    go_ret
    exact ⟨rfl, Below.refl _ _⟩
  cases h17 : (nm.toList == [83, 72, 88])
  rotate_left
  · simp only [Bool.false_eq_true, if_true, if_false, reduceIte]
    go_enter Tryz.func35, Tryz.ntmps35
    go_wp2
    go_ret
    exact ⟨rfl, Below.refl _ _⟩
  cases h18 : (nm.toList == [83, 72, 89])
  rotate_left
  · simp only [Bool.false_eq_true, if_true, if_false, reduceIte]
    go_enter Tryz.func35, Tryz.ntmps35
    go_wp2
    go_ret
    exact ⟨rfl, Below.refl _ _⟩
  cases h19 : (nm.toList == [83, 76, 79])
  rotate_left
  · simp only [Bool.false_eq_true, if_true, if_false, reduceIte]
    go_enter Tryz.func35, Tryz.ntmps35
    go_wp2
    go_ret
    exact ⟨rfl, Below.refl _ _⟩
  cases h20 : (nm.toList == [83, 82, 69])
  rotate_left
  · simp only [Bool.false_eq_true, if_true, if_false, reduceIte]
    go_enter Tryz.func35, Tryz.ntmps35
    go_wp2
    go_ret
    exact ⟨rfl, Below.refl _ _⟩
  cases h21 : (nm.toList == [84, 65, 83])
  rotate_left
  · simp only [Bool.false_eq_true, if_true, if_false, reduceIte]
    go_enter Tryz.func35, Tryz.ntmps35
    go_wp2
    go_ret
    exact ⟨rfl, Below.refl _ _⟩
  simp only [Bool.false_eq_true, if_true, if_false, reduceIte]
  go_enter Tryz.func35, Tryz.ntmps35
  go_wp2
  go_ret
  exact ⟨rfl, Below.refl _ _⟩
end Go.Proofs.YtcgnnbgknaamdaaGreatDoor
namespace Go.Proofs.YtcgnnbgknaamdaaGreatDoor
open Go.RowKit
set_option linter.unusedSimpArgs false
set_option linter.unusedVariables false
set_option maxRecDepth 20000

def crossQ (m u : Int) : Bool := if m = 7 ∨ m = 8 ∨ m = 10 then (u == 1) else (m == 11)
set_option maxHeartbeats 2000000 in
theorem qcrosses_ct (m u : Int) (w : World) :
    Calls Tryz.prog 34 #[.int .i64 m, .int .i64 u] w fun e w' => e = .returned (.bool (crossQ m u)) ∧ Below w.heap.size w w' := by
  have hm : m = 7 ∨ m = 8 ∨ m = 10 ∨ (m ≠ 7 ∧ m ≠ 8 ∧ m ≠ 10) := by omega
  unfold crossQ
  rcases hm with rfl | rfl | rfl | ⟨h7, h8, h10⟩
  · rw [if_pos (by decide)]
    go_enter Tryz.func34, Tryz.ntmps34
    go_wp2
    go_ret
    exact ⟨rfl, Below.refl _ _⟩
  · rw [if_pos (by decide)]
    go_enter Tryz.func34, Tryz.ntmps34
    go_wp2
    go_ret
    exact ⟨rfl, Below.refl _ _⟩
  · rw [if_pos (by decide)]
    go_enter Tryz.func34, Tryz.ntmps34
    go_wp2
    go_ret
    exact ⟨rfl, Below.refl _ _⟩
  · rw [if_neg (by omega)]
    have e1 : (m == 7) = false := by simp; omega
    have e2 : (m == 8) = false := by simp; omega
    have e3 : (m == 10) = false := by simp; omega
    go_enter Tryz.func34, Tryz.ntmps34
    go_wp2
    go_ret
    exact ⟨rfl, Below.refl _ _⟩
end Go.Proofs.YtcgnnbgknaamdaaGreatDoor
