/-
  Several texts in one: what is read and written by the functions on the way to the statements. Conditions stand in each theorem.
-/
import Derived.Test.YtopmlmpadkdhjaaGreatDoorZ03
namespace Go.Proofs.YtopmlmpadkdhjaaGreatDoor
open Go.RowKit
set_option linter.unusedSimpArgs false
set_option linter.unusedVariables false
set_option maxRecDepth 20000

theorem modeW_le (a b c : Int) (j y p : Bool) (a0 : 0 ≤ a) (a1 : a < 8) : 0 ≤ modeW a b c j y p ∧ modeW a b c j y p ≤ 20 := by
  unfold modeW
  repeat' split
  all_goals omega
theorem modeV_le (op : Int) (o0 : 0 ≤ op) (o1 : op < 256) : 0 ≤ modeV op ∧ modeV op ≤ 20 := modeW_le _ _ _ _ _ _ (by omega) (by omega)
def useW (m : Int) (w2 w3 : Bool) : Int := if m < 2 ∨ 10 < m then 0 else if w2 = true then 2 else if w3 = true then 3 else 1
def useN (nm : ByteArray) (m : Int) : Int := useW m (isIn ⟨#[83, 84, 65, 32, 83, 84, 88, 32, 83, 84, 89, 32, 83, 65, 88, 32, 83, 72, 65, 32, 83, 72, 88, 32, 83, 72, 89, 32, 84, 65, 83, 32]⟩ nm) (isIn ⟨#[65, 83, 76, 32, 76, 83, 82, 32, 82, 79, 76, 32, 82, 79, 82, 32, 73, 78, 67, 32, 68, 69, 67, 32, 83, 76, 79, 32, 82, 76, 65, 32, 83, 82, 69, 32, 82, 82, 65, 32, 68, 67, 80, 32, 73, 83, 67, 32]⟩ nm)
theorem useW_le (m : Int) (x y : Bool) : 0 ≤ useW m x y ∧ useW m x y ≤ 3 := by
  unfold useW
  repeat' split
  all_goals omega
def baseV (m : Int) : Int := if m = 3 then 3 else if m = 4 ∨ m = 5 ∨ m = 6 ∨ m = 7 ∨ m = 8 then 4 else if m = 9 then 6 else if m = 10 then 5 else if m = 12 then 5 else if m = 13 then 3 else if m = 14 ∨ m = 15 ∨ m = 16 then 6 else if m = 17 then 7 else if m = 18 then 3 else if m = 19 then 4 else if m = 20 then 0 else 2
def cycV (m u : Int) : Int := baseV m + (if 2 ≤ u ∧ (m = 7 ∨ m = 8 ∨ m = 10) then 1 else 0) + (if u = 3 then 2 else 0)
set_option maxHeartbeats 1000000 in
theorem ruse_ct (nm : ByteArray) (m : Int) (w : World) (m0 : 0 ≤ m) (m1 : m ≤ 20) :
    Calls Tryz.prog 43 #[.string nm, .int .i64 m] w fun e w' => e = .returned (.int .i64 (useN nm m)) ∧ Below w.heap.size w w' := by
  have K2 := fun wr => rone_ct ⟨#[83, 84, 65, 32, 83, 84, 88, 32, 83, 84, 89, 32, 83, 65, 88, 32, 83, 72, 65, 32, 83, 72, 88, 32, 83, 72, 89, 32, 84, 65, 83, 32]⟩ nm wr (by decide)
  have K3 := fun wr => rone_ct ⟨#[65, 83, 76, 32, 76, 83, 82, 32, 82, 79, 76, 32, 82, 79, 82, 32, 73, 78, 67, 32, 68, 69, 67, 32, 83, 76, 79, 32, 82, 76, 65, 32, 83, 82, 69, 32, 82, 82, 65, 32, 68, 67, 80, 32, 73, 83, 67, 32]⟩ nm wr (by decide)
  unfold useN
  generalize isIn ⟨#[83, 84, 65, 32, 83, 84, 88, 32, 83, 84, 89, 32, 83, 65, 88, 32, 83, 72, 65, 32, 83, 72, 88, 32, 83, 72, 89, 32, 84, 65, 83, 32]⟩ nm = x at *
  generalize isIn ⟨#[65, 83, 76, 32, 76, 83, 82, 32, 82, 79, 76, 32, 82, 79, 82, 32, 73, 78, 67, 32, 68, 69, 67, 32, 83, 76, 79, 32, 82, 76, 65, 32, 83, 82, 69, 32, 82, 82, 65, 32, 68, 67, 80, 32, 73, 83, 67, 32]⟩ nm = y at *
  have Q2 := Lib.hid K2
  have Q3 := Lib.hid K3
  clear K2 K3
  have B := Below.refl w.heap.size w
  have hm : m < 2 ∨ (2 ≤ m ∧ m ≤ 10) ∨ 10 < m := by omega
  rcases hm with hm | ⟨hm, hn⟩ | hm
  · rw [show useW m x y = 0 by unfold useW; rw [if_pos (by omega)]]
    have hd : decide (m < 2) = true := decide_eq_true hm
    go_enter Tryz.func43, Tryz.ntmps43
    go_wp2_with (first
      | (go_at_call 44; first
          | ((with_reducible refine (Q2.out _).mono ?_); rintro e w2 ⟨rfl, hB⟩; replace B := B.next hB; clear hB)
          | ((with_reducible refine (Q3.out _).mono ?_); rintro e w2 ⟨rfl, hB⟩; replace B := B.next hB; clear hB)) | fail)
    go_ret
    exact ⟨rfl, B⟩
  · have hd : decide (m < 2) = false := decide_eq_false (by omega)
    have hd2 : decide (10 < m) = false := decide_eq_false (by omega)
    cases x
    · cases y
      · rw [show useW m false false = 1 by unfold useW; rw [if_neg (by omega)]; rfl]
        go_enter Tryz.func43, Tryz.ntmps43
        go_wp2_with (first
          | (go_at_call 44; first
              | ((with_reducible refine (Q2.out _).mono ?_); rintro e w2 ⟨rfl, hB⟩; replace B := B.next hB; clear hB)
              | ((with_reducible refine (Q3.out _).mono ?_); rintro e w2 ⟨rfl, hB⟩; replace B := B.next hB; clear hB)) | fail)
        go_ret
        exact ⟨rfl, B⟩
      · rw [show useW m false true = 3 by unfold useW; rw [if_neg (by omega)]; rfl]
        go_enter Tryz.func43, Tryz.ntmps43
        go_wp2_with (first
          | (go_at_call 44; first
              | ((with_reducible refine (Q2.out _).mono ?_); rintro e w2 ⟨rfl, hB⟩; replace B := B.next hB; clear hB)
              | ((with_reducible refine (Q3.out _).mono ?_); rintro e w2 ⟨rfl, hB⟩; replace B := B.next hB; clear hB)) | fail)
        go_ret
        exact ⟨rfl, B⟩
    · rw [show useW m true y = 2 by unfold useW; rw [if_neg (by omega)]; rfl]
      go_enter Tryz.func43, Tryz.ntmps43
      go_wp2_with (first
        | (go_at_call 44; first
            | ((with_reducible refine (Q2.out _).mono ?_); rintro e w2 ⟨rfl, hB⟩; replace B := B.next hB; clear hB)
            | ((with_reducible refine (Q3.out _).mono ?_); rintro e w2 ⟨rfl, hB⟩; replace B := B.next hB; clear hB)) | fail)
      go_ret
      exact ⟨rfl, B⟩
  · rw [show useW m x y = 0 by unfold useW; rw [if_pos (by omega)]]
    have hd : decide (m < 2) = false := decide_eq_false (by omega)
    have hd2 : decide (10 < m) = true := decide_eq_true hm
    go_enter Tryz.func43, Tryz.ntmps43
    go_wp2_with (first
      | (go_at_call 44; first
          | ((with_reducible refine (Q2.out _).mono ?_); rintro e w2 ⟨rfl, hB⟩; replace B := B.next hB; clear hB)
          | ((with_reducible refine (Q3.out _).mono ?_); rintro e w2 ⟨rfl, hB⟩; replace B := B.next hB; clear hB)) | fail)
    go_ret
    exact ⟨rfl, B⟩
set_option maxHeartbeats 8000000 in
theorem rcyc_ct (m u : Int) (w : World) (m0 : 0 ≤ m) (m1 : m ≤ 20) (u0 : 0 ≤ u) (u1 : u ≤ 3) :
    Calls Tryz.prog 45 #[.int .i64 m, .int .i64 u] w fun e w' => e = .returned (.int .i64 (cycV m u)) ∧ Below w.heap.size w w' := by
  have hm : m = 0 ∨ m = 1 ∨ m = 2 ∨ m = 3 ∨ m = 4 ∨ m = 5 ∨ m = 6 ∨ m = 7 ∨ m = 8 ∨ m = 9 ∨ m = 10 ∨ m = 11 ∨ m = 12 ∨ m = 13 ∨ m = 14 ∨ m = 15 ∨ m = 16 ∨ m = 17 ∨ m = 18 ∨ m = 19 ∨ m = 20 := by omega
  have hu : u = 0 ∨ u = 1 ∨ u = 2 ∨ u = 3 := by omega
  clear m0 m1 u0 u1
  rcases hm with rfl | rfl | rfl | rfl | rfl | rfl | rfl | rfl | rfl | rfl | rfl | rfl | rfl | rfl | rfl | rfl | rfl | rfl | rfl | rfl | rfl
  all_goals
    rcases hu with rfl | rfl | rfl | rfl
    all_goals
      go_enter Tryz.func45, Tryz.ntmps45
      go_wp2
      go_ret
      exact ⟨rfl, Below.refl _ _⟩
end Go.Proofs.YtopmlmpadkdhjaaGreatDoor
