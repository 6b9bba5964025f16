/-
  Several texts in one: what is read and written by the functions on the way to the statements. Conditions stand in each theorem.
-/
import Derived.Test.YtopmlmpadkdhjaaGreatDoorZ02
namespace Go.Proofs.YtopmlmpadkdhjaaGreatDoor
open Go.RowKit
set_option linter.unusedSimpArgs false
set_option linter.unusedVariables false
set_option maxRecDepth 20000

def modeW (a b c : Int) (jam y jmp : Bool) : Int :=
  if jam = true then 20 else if b = 0 then (if c % 2 = 1 then 9 else if c = 0 ∧ a < 4 then (if a = 0 then 17 else if a = 1 then 14 else if a = 2 then 16 else 15) else 2)
  else if b = 1 then 3 else if b = 2 then (if c % 2 = 1 then 2 else if c = 0 ∧ a < 4 then 18 + a % 2 else if c = 2 ∧ a < 4 then 1 else 0)
  else if b = 3 then (if jmp = true then 15 - a else 6) else if b = 4 then (if c = 0 then 11 else 10) else if b = 5 then (if y = true then 5 else 4)
  else if b = 6 then (if c % 2 = 1 then 8 else 0) else (if y = true then 8 else 7)
def modeV (op : Int) : Int := modeW (op / 32) (op / 4 % 8) (op % 4) ((nameV op).toList == [74, 65, 77]) (isIn ⟨#[83, 84, 88, 32, 76, 68, 88, 32, 83, 65, 88, 32, 76, 65, 88, 32, 83, 72, 88, 32, 83, 72, 65, 32]⟩ (nameV op)) ((nameV op).toList == [74, 77, 80])
set_option maxHeartbeats 8000000 in
theorem rmode_ct (op : Int) (w : World) (o0 : 0 ≤ op) (o1 : op < 256) :
    Calls Tryz.prog 42 #[.int .i64 op] w fun e w' => e = .returned (.int .i64 (modeV op)) ∧ Below w.heap.size w w' := by
  have KN := fun wr => rname_ct op wr o0 o1
  have KY := fun wr => rone_ct ⟨#[83, 84, 88, 32, 76, 68, 88, 32, 83, 65, 88, 32, 76, 65, 88, 32, 83, 72, 88, 32, 83, 72, 65, 32]⟩ (nameV op) wr (by decide)
  unfold modeV
  generalize nameV op = nm at *
  generalize hy : isIn ⟨#[83, 84, 88, 32, 76, 68, 88, 32, 83, 65, 88, 32, 76, 65, 88, 32, 83, 72, 88, 32, 83, 72, 65, 32]⟩ nm = y at *
  generalize hj : (nm.toList == [74, 65, 77]) = jam at *
  generalize hm : (nm.toList == [74, 77, 80]) = jmp at *
  have QN := Lib.hid KN
  have QY := Lib.hid KY
  clear KN KY hy
  obtain ⟨A, hA⟩ : ∃ A, op / 32 = A := ⟨_, rfl⟩
  have A0 : 0 ≤ A := by omega
  have A1 : A < 8 := by omega
  have hB : op / 4 % 8 = 0 ∨ op / 4 % 8 = 1 ∨ op / 4 % 8 = 2 ∨ op / 4 % 8 = 3 ∨ op / 4 % 8 = 4 ∨ op / 4 % 8 = 5 ∨ op / 4 % 8 = 6 ∨ op / 4 % 8 = 7 := by omega
  have hC : op % 4 = 0 ∨ op % 4 = 1 ∨ op % 4 = 2 ∨ op % 4 = 3 := by omega
  have B := Below.refl w.heap.size w
  rw [hA]
  cases jam
  · rcases hC with hC | hC | hC | hC
    · rcases hB with hB | hB | hB | hB | hB | hB | hB | hB
      · have hq : A = 0 ∨ A = 1 ∨ A = 2 ∨ A = 3 ∨ 4 ≤ A := by omega
        rcases hq with hq | hq | hq | hq | hq
        · skip
          obtain rfl : A = 0 := hq
          rw [hB, hC]
          rw [show modeW 0 0 0 false y jmp = 17 by simp [modeW]]
          go_enter Tryz.func42, Tryz.ntmps42
          go_wp2_with (first
            | (go_at_call 41; (with_reducible refine (QN.out _).mono ?_); rintro e w2 ⟨rfl, hB⟩; replace B := B.next hB; clear hB)
            | (go_at_call 44; (with_reducible refine (QY.out _).mono ?_); rintro e w2 ⟨rfl, hB⟩; replace B := B.next hB; clear hB) | fail)
          go_ret
          exact ⟨rfl, B.alloc B.size _⟩
        · skip
          obtain rfl : A = 1 := hq
          rw [hB, hC]
          rw [show modeW 1 0 0 false y jmp = 14 by simp [modeW]]
          go_enter Tryz.func42, Tryz.ntmps42
          go_wp2_with (first
            | (go_at_call 41; (with_reducible refine (QN.out _).mono ?_); rintro e w2 ⟨rfl, hB⟩; replace B := B.next hB; clear hB)
            | (go_at_call 44; (with_reducible refine (QY.out _).mono ?_); rintro e w2 ⟨rfl, hB⟩; replace B := B.next hB; clear hB) | fail)
          go_ret
          exact ⟨rfl, B.alloc B.size _⟩
        · skip
          obtain rfl : A = 2 := hq
          rw [hB, hC]
          rw [show modeW 2 0 0 false y jmp = 16 by simp [modeW]]
          go_enter Tryz.func42, Tryz.ntmps42
          go_wp2_with (first
            | (go_at_call 41; (with_reducible refine (QN.out _).mono ?_); rintro e w2 ⟨rfl, hB⟩; replace B := B.next hB; clear hB)
            | (go_at_call 44; (with_reducible refine (QY.out _).mono ?_); rintro e w2 ⟨rfl, hB⟩; replace B := B.next hB; clear hB) | fail)
          go_ret
          exact ⟨rfl, B.alloc B.size _⟩
        · skip
          obtain rfl : A = 3 := hq
          rw [hB, hC]
          rw [show modeW 3 0 0 false y jmp = 15 by simp [modeW]]
          go_enter Tryz.func42, Tryz.ntmps42
          go_wp2_with (first
            | (go_at_call 41; (with_reducible refine (QN.out _).mono ?_); rintro e w2 ⟨rfl, hB⟩; replace B := B.next hB; clear hB)
            | (go_at_call 44; (with_reducible refine (QY.out _).mono ?_); rintro e w2 ⟨rfl, hB⟩; replace B := B.next hB; clear hB) | fail)
          go_ret
          exact ⟨rfl, B.alloc B.size _⟩
        · skip
          have hd : decide (A < 4) = false := by simp; omega
          rw [hB, hC]
          rw [show modeW A 0 0 false y jmp = 2 by simp [modeW, show ¬ A < 4 by omega]]
          go_enter Tryz.func42, Tryz.ntmps42
          go_wp2_with (first
            | (go_at_call 41; (with_reducible refine (QN.out _).mono ?_); rintro e w2 ⟨rfl, hB⟩; replace B := B.next hB; clear hB)
            | (go_at_call 44; (with_reducible refine (QY.out _).mono ?_); rintro e w2 ⟨rfl, hB⟩; replace B := B.next hB; clear hB) | fail)
          go_ret
          exact ⟨rfl, B⟩
      · skip
        rw [hB, hC]
        rw [show modeW A 1 0 false y jmp = 3 by simp [modeW]]
        go_enter Tryz.func42, Tryz.ntmps42
        go_wp2_with (first
          | (go_at_call 41; (with_reducible refine (QN.out _).mono ?_); rintro e w2 ⟨rfl, hB⟩; replace B := B.next hB; clear hB)
          | (go_at_call 44; (with_reducible refine (QY.out _).mono ?_); rintro e w2 ⟨rfl, hB⟩; replace B := B.next hB; clear hB) | fail)
        go_ret
        exact ⟨rfl, B⟩
      · have hq : A < 4 ∨ 4 ≤ A := by omega
        rcases hq with hq | hq
        · skip
          have hd : decide (A < 4) = true := by simp; omega
          rw [hB, hC]
          rw [show modeW A 2 0 false y jmp = 18 + A % 2 by simp [modeW, show A < 4 by omega]]
          go_enter Tryz.func42, Tryz.ntmps42
          go_wp2_with (first
            | (go_at_call 41; (with_reducible refine (QN.out _).mono ?_); rintro e w2 ⟨rfl, hB⟩; replace B := B.next hB; clear hB)
            | (go_at_call 44; (with_reducible refine (QY.out _).mono ?_); rintro e w2 ⟨rfl, hB⟩; replace B := B.next hB; clear hB) | fail)
          go_ret
          exact ⟨rfl, B⟩
        · skip
          have hd : decide (A < 4) = false := by simp; omega
          rw [hB, hC]
          rw [show modeW A 2 0 false y jmp = 0 by simp [modeW, show ¬ A < 4 by omega]]
          go_enter Tryz.func42, Tryz.ntmps42
          go_wp2_with (first
            | (go_at_call 41; (with_reducible refine (QN.out _).mono ?_); rintro e w2 ⟨rfl, hB⟩; replace B := B.next hB; clear hB)
            | (go_at_call 44; (with_reducible refine (QY.out _).mono ?_); rintro e w2 ⟨rfl, hB⟩; replace B := B.next hB; clear hB) | fail)
          go_ret
          exact ⟨rfl, B⟩
      · have hq : jmp = true ∨ jmp = false := by cases jmp <;> simp
        rcases hq with hq | hq
        · skip
          obtain rfl : jmp = true := hq
          rw [hB, hC]
          rw [show modeW A 3 0 false y true = 15 - A by simp [modeW]]
          go_enter Tryz.func42, Tryz.ntmps42
          go_wp2_with (first
            | (go_at_call 41; (with_reducible refine (QN.out _).mono ?_); rintro e w2 ⟨rfl, hB⟩; replace B := B.next hB; clear hB)
            | (go_at_call 44; (with_reducible refine (QY.out _).mono ?_); rintro e w2 ⟨rfl, hB⟩; replace B := B.next hB; clear hB) | fail)
          go_ret
          exact ⟨rfl, B⟩
        · skip
          obtain rfl : jmp = false := hq
          rw [hB, hC]
          rw [show modeW A 3 0 false y false = 6 by simp [modeW]]
          go_enter Tryz.func42, Tryz.ntmps42
          go_wp2_with (first
            | (go_at_call 41; (with_reducible refine (QN.out _).mono ?_); rintro e w2 ⟨rfl, hB⟩; replace B := B.next hB; clear hB)
            | (go_at_call 44; (with_reducible refine (QY.out _).mono ?_); rintro e w2 ⟨rfl, hB⟩; replace B := B.next hB; clear hB) | fail)
          go_ret
          exact ⟨rfl, B⟩
      · skip
        rw [hB, hC]
        rw [show modeW A 4 0 false y jmp = 11 by simp [modeW]]
        go_enter Tryz.func42, Tryz.ntmps42
        go_wp2_with (first
          | (go_at_call 41; (with_reducible refine (QN.out _).mono ?_); rintro e w2 ⟨rfl, hB⟩; replace B := B.next hB; clear hB)
          | (go_at_call 44; (with_reducible refine (QY.out _).mono ?_); rintro e w2 ⟨rfl, hB⟩; replace B := B.next hB; clear hB) | fail)
        go_ret
        exact ⟨rfl, B⟩
      · have hq : y = true ∨ y = false := by cases y <;> simp
        rcases hq with hq | hq
        · skip
          obtain rfl : y = true := hq
          rw [hB, hC]
          rw [show modeW A 5 0 false true jmp = 5 by simp [modeW]]
          go_enter Tryz.func42, Tryz.ntmps42
          go_wp2_with (first
            | (go_at_call 41; (with_reducible refine (QN.out _).mono ?_); rintro e w2 ⟨rfl, hB⟩; replace B := B.next hB; clear hB)
            | (go_at_call 44; (with_reducible refine (QY.out _).mono ?_); rintro e w2 ⟨rfl, hB⟩; replace B := B.next hB; clear hB) | fail)
          go_ret
          exact ⟨rfl, B⟩
        · skip
          obtain rfl : y = false := hq
          rw [hB, hC]
          rw [show modeW A 5 0 false false jmp = 4 by simp [modeW]]
          go_enter Tryz.func42, Tryz.ntmps42
          go_wp2_with (first
            | (go_at_call 41; (with_reducible refine (QN.out _).mono ?_); rintro e w2 ⟨rfl, hB⟩; replace B := B.next hB; clear hB)
            | (go_at_call 44; (with_reducible refine (QY.out _).mono ?_); rintro e w2 ⟨rfl, hB⟩; replace B := B.next hB; clear hB) | fail)
          go_ret
          exact ⟨rfl, B⟩
      · skip
        rw [hB, hC]
        rw [show modeW A 6 0 false y jmp = 0 by simp [modeW]]
        go_enter Tryz.func42, Tryz.ntmps42
        go_wp2_with (first
          | (go_at_call 41; (with_reducible refine (QN.out _).mono ?_); rintro e w2 ⟨rfl, hB⟩; replace B := B.next hB; clear hB)
          | (go_at_call 44; (with_reducible refine (QY.out _).mono ?_); rintro e w2 ⟨rfl, hB⟩; replace B := B.next hB; clear hB) | fail)
        go_ret
        exact ⟨rfl, B⟩
      · have hq : y = true ∨ y = false := by cases y <;> simp
        rcases hq with hq | hq
        · skip
          obtain rfl : y = true := hq
          rw [hB, hC]
          rw [show modeW A 7 0 false true jmp = 8 by simp [modeW]]
          go_enter Tryz.func42, Tryz.ntmps42
          go_wp2_with (first
            | (go_at_call 41; (with_reducible refine (QN.out _).mono ?_); rintro e w2 ⟨rfl, hB⟩; replace B := B.next hB; clear hB)
            | (go_at_call 44; (with_reducible refine (QY.out _).mono ?_); rintro e w2 ⟨rfl, hB⟩; replace B := B.next hB; clear hB) | fail)
          go_ret
          exact ⟨rfl, B⟩
        · skip
          obtain rfl : y = false := hq
          rw [hB, hC]
          rw [show modeW A 7 0 false false jmp = 7 by simp [modeW]]
          go_enter Tryz.func42, Tryz.ntmps42
          go_wp2_with (first
            | (go_at_call 41; (with_reducible refine (QN.out _).mono ?_); rintro e w2 ⟨rfl, hB⟩; replace B := B.next hB; clear hB)
            | (go_at_call 44; (with_reducible refine (QY.out _).mono ?_); rintro e w2 ⟨rfl, hB⟩; replace B := B.next hB; clear hB) | fail)
          go_ret
          exact ⟨rfl, B⟩
    · rcases hB with hB | hB | hB | hB | hB | hB | hB | hB
      · skip
        rw [hB, hC]
        rw [show modeW A 0 1 false y jmp = 9 by simp [modeW]]
        go_enter Tryz.func42, Tryz.ntmps42
        go_wp2_with (first
          | (go_at_call 41; (with_reducible refine (QN.out _).mono ?_); rintro e w2 ⟨rfl, hB⟩; replace B := B.next hB; clear hB)
          | (go_at_call 44; (with_reducible refine (QY.out _).mono ?_); rintro e w2 ⟨rfl, hB⟩; replace B := B.next hB; clear hB) | fail)
        go_ret
        exact ⟨rfl, B⟩
      · skip
        rw [hB, hC]
        rw [show modeW A 1 1 false y jmp = 3 by simp [modeW]]
        go_enter Tryz.func42, Tryz.ntmps42
        go_wp2_with (first
          | (go_at_call 41; (with_reducible refine (QN.out _).mono ?_); rintro e w2 ⟨rfl, hB⟩; replace B := B.next hB; clear hB)
          | (go_at_call 44; (with_reducible refine (QY.out _).mono ?_); rintro e w2 ⟨rfl, hB⟩; replace B := B.next hB; clear hB) | fail)
        go_ret
        exact ⟨rfl, B⟩
      · skip
        rw [hB, hC]
        rw [show modeW A 2 1 false y jmp = 2 by simp [modeW]]
        go_enter Tryz.func42, Tryz.ntmps42
        go_wp2_with (first
          | (go_at_call 41; (with_reducible refine (QN.out _).mono ?_); rintro e w2 ⟨rfl, hB⟩; replace B := B.next hB; clear hB)
          | (go_at_call 44; (with_reducible refine (QY.out _).mono ?_); rintro e w2 ⟨rfl, hB⟩; replace B := B.next hB; clear hB) | fail)
        go_ret
        exact ⟨rfl, B⟩
      · have hq : jmp = true ∨ jmp = false := by cases jmp <;> simp
        rcases hq with hq | hq
        · skip
          obtain rfl : jmp = true := hq
          rw [hB, hC]
          rw [show modeW A 3 1 false y true = 15 - A by simp [modeW]]
          go_enter Tryz.func42, Tryz.ntmps42
          go_wp2_with (first
            | (go_at_call 41; (with_reducible refine (QN.out _).mono ?_); rintro e w2 ⟨rfl, hB⟩; replace B := B.next hB; clear hB)
            | (go_at_call 44; (with_reducible refine (QY.out _).mono ?_); rintro e w2 ⟨rfl, hB⟩; replace B := B.next hB; clear hB) | fail)
          go_ret
          exact ⟨rfl, B⟩
        · skip
          obtain rfl : jmp = false := hq
          rw [hB, hC]
          rw [show modeW A 3 1 false y false = 6 by simp [modeW]]
          go_enter Tryz.func42, Tryz.ntmps42
          go_wp2_with (first
            | (go_at_call 41; (with_reducible refine (QN.out _).mono ?_); rintro e w2 ⟨rfl, hB⟩; replace B := B.next hB; clear hB)
            | (go_at_call 44; (with_reducible refine (QY.out _).mono ?_); rintro e w2 ⟨rfl, hB⟩; replace B := B.next hB; clear hB) | fail)
          go_ret
          exact ⟨rfl, B⟩
      · skip
        rw [hB, hC]
        rw [show modeW A 4 1 false y jmp = 10 by simp [modeW]]
        go_enter Tryz.func42, Tryz.ntmps42
        go_wp2_with (first
          | (go_at_call 41; (with_reducible refine (QN.out _).mono ?_); rintro e w2 ⟨rfl, hB⟩; replace B := B.next hB; clear hB)
          | (go_at_call 44; (with_reducible refine (QY.out _).mono ?_); rintro e w2 ⟨rfl, hB⟩; replace B := B.next hB; clear hB) | fail)
        go_ret
        exact ⟨rfl, B⟩
      · have hq : y = true ∨ y = false := by cases y <;> simp
        rcases hq with hq | hq
        · skip
          obtain rfl : y = true := hq
          rw [hB, hC]
          rw [show modeW A 5 1 false true jmp = 5 by simp [modeW]]
          go_enter Tryz.func42, Tryz.ntmps42
          go_wp2_with (first
            | (go_at_call 41; (with_reducible refine (QN.out _).mono ?_); rintro e w2 ⟨rfl, hB⟩; replace B := B.next hB; clear hB)
            | (go_at_call 44; (with_reducible refine (QY.out _).mono ?_); rintro e w2 ⟨rfl, hB⟩; replace B := B.next hB; clear hB) | fail)
          go_ret
          exact ⟨rfl, B⟩
        · skip
          obtain rfl : y = false := hq
          rw [hB, hC]
          rw [show modeW A 5 1 false false jmp = 4 by simp [modeW]]
          go_enter Tryz.func42, Tryz.ntmps42
          go_wp2_with (first
            | (go_at_call 41; (with_reducible refine (QN.out _).mono ?_); rintro e w2 ⟨rfl, hB⟩; replace B := B.next hB; clear hB)
            | (go_at_call 44; (with_reducible refine (QY.out _).mono ?_); rintro e w2 ⟨rfl, hB⟩; replace B := B.next hB; clear hB) | fail)
          go_ret
          exact ⟨rfl, B⟩
      · skip
        rw [hB, hC]
        rw [show modeW A 6 1 false y jmp = 8 by simp [modeW]]
        go_enter Tryz.func42, Tryz.ntmps42
        go_wp2_with (first
          | (go_at_call 41; (with_reducible refine (QN.out _).mono ?_); rintro e w2 ⟨rfl, hB⟩; replace B := B.next hB; clear hB)
          | (go_at_call 44; (with_reducible refine (QY.out _).mono ?_); rintro e w2 ⟨rfl, hB⟩; replace B := B.next hB; clear hB) | fail)
        go_ret
        exact ⟨rfl, B⟩
      · have hq : y = true ∨ y = false := by cases y <;> simp
        rcases hq with hq | hq
        · skip
          obtain rfl : y = true := hq
          rw [hB, hC]
          rw [show modeW A 7 1 false true jmp = 8 by simp [modeW]]
          go_enter Tryz.func42, Tryz.ntmps42
          go_wp2_with (first
            | (go_at_call 41; (with_reducible refine (QN.out _).mono ?_); rintro e w2 ⟨rfl, hB⟩; replace B := B.next hB; clear hB)
            | (go_at_call 44; (with_reducible refine (QY.out _).mono ?_); rintro e w2 ⟨rfl, hB⟩; replace B := B.next hB; clear hB) | fail)
          go_ret
          exact ⟨rfl, B⟩
        · skip
          obtain rfl : y = false := hq
          rw [hB, hC]
          rw [show modeW A 7 1 false false jmp = 7 by simp [modeW]]
          go_enter Tryz.func42, Tryz.ntmps42
          go_wp2_with (first
            | (go_at_call 41; (with_reducible refine (QN.out _).mono ?_); rintro e w2 ⟨rfl, hB⟩; replace B := B.next hB; clear hB)
            | (go_at_call 44; (with_reducible refine (QY.out _).mono ?_); rintro e w2 ⟨rfl, hB⟩; replace B := B.next hB; clear hB) | fail)
          go_ret
          exact ⟨rfl, B⟩
    · rcases hB with hB | hB | hB | hB | hB | hB | hB | hB
      · skip
        rw [hB, hC]
        rw [show modeW A 0 2 false y jmp = 2 by simp [modeW]]
        go_enter Tryz.func42, Tryz.ntmps42
        go_wp2_with (first
          | (go_at_call 41; (with_reducible refine (QN.out _).mono ?_); rintro e w2 ⟨rfl, hB⟩; replace B := B.next hB; clear hB)
          | (go_at_call 44; (with_reducible refine (QY.out _).mono ?_); rintro e w2 ⟨rfl, hB⟩; replace B := B.next hB; clear hB) | fail)
        go_ret
        exact ⟨rfl, B⟩
      · skip
        rw [hB, hC]
        rw [show modeW A 1 2 false y jmp = 3 by simp [modeW]]
        go_enter Tryz.func42, Tryz.ntmps42
        go_wp2_with (first
          | (go_at_call 41; (with_reducible refine (QN.out _).mono ?_); rintro e w2 ⟨rfl, hB⟩; replace B := B.next hB; clear hB)
          | (go_at_call 44; (with_reducible refine (QY.out _).mono ?_); rintro e w2 ⟨rfl, hB⟩; replace B := B.next hB; clear hB) | fail)
        go_ret
        exact ⟨rfl, B⟩
      · have hq : A < 4 ∨ 4 ≤ A := by omega
        rcases hq with hq | hq
        · skip
          have hd : decide (A < 4) = true := by simp; omega
          rw [hB, hC]
          rw [show modeW A 2 2 false y jmp = 1 by simp [modeW, show A < 4 by omega]]
          go_enter Tryz.func42, Tryz.ntmps42
          go_wp2_with (first
            | (go_at_call 41; (with_reducible refine (QN.out _).mono ?_); rintro e w2 ⟨rfl, hB⟩; replace B := B.next hB; clear hB)
            | (go_at_call 44; (with_reducible refine (QY.out _).mono ?_); rintro e w2 ⟨rfl, hB⟩; replace B := B.next hB; clear hB) | fail)
          go_ret
          exact ⟨rfl, B⟩
        · skip
          have hd : decide (A < 4) = false := by simp; omega
          rw [hB, hC]
          rw [show modeW A 2 2 false y jmp = 0 by simp [modeW, show ¬ A < 4 by omega]]
          go_enter Tryz.func42, Tryz.ntmps42
          go_wp2_with (first
            | (go_at_call 41; (with_reducible refine (QN.out _).mono ?_); rintro e w2 ⟨rfl, hB⟩; replace B := B.next hB; clear hB)
            | (go_at_call 44; (with_reducible refine (QY.out _).mono ?_); rintro e w2 ⟨rfl, hB⟩; replace B := B.next hB; clear hB) | fail)
          go_ret
          exact ⟨rfl, B⟩
      · have hq : jmp = true ∨ jmp = false := by cases jmp <;> simp
        rcases hq with hq | hq
        · skip
          obtain rfl : jmp = true := hq
          rw [hB, hC]
          rw [show modeW A 3 2 false y true = 15 - A by simp [modeW]]
          go_enter Tryz.func42, Tryz.ntmps42
          go_wp2_with (first
            | (go_at_call 41; (with_reducible refine (QN.out _).mono ?_); rintro e w2 ⟨rfl, hB⟩; replace B := B.next hB; clear hB)
            | (go_at_call 44; (with_reducible refine (QY.out _).mono ?_); rintro e w2 ⟨rfl, hB⟩; replace B := B.next hB; clear hB) | fail)
          go_ret
          exact ⟨rfl, B⟩
        · skip
          obtain rfl : jmp = false := hq
          rw [hB, hC]
          rw [show modeW A 3 2 false y false = 6 by simp [modeW]]
          go_enter Tryz.func42, Tryz.ntmps42
          go_wp2_with (first
            | (go_at_call 41; (with_reducible refine (QN.out _).mono ?_); rintro e w2 ⟨rfl, hB⟩; replace B := B.next hB; clear hB)
            | (go_at_call 44; (with_reducible refine (QY.out _).mono ?_); rintro e w2 ⟨rfl, hB⟩; replace B := B.next hB; clear hB) | fail)
          go_ret
          exact ⟨rfl, B⟩
      · skip
        rw [hB, hC]
        rw [show modeW A 4 2 false y jmp = 10 by simp [modeW]]
        go_enter Tryz.func42, Tryz.ntmps42
        go_wp2_with (first
          | (go_at_call 41; (with_reducible refine (QN.out _).mono ?_); rintro e w2 ⟨rfl, hB⟩; replace B := B.next hB; clear hB)
          | (go_at_call 44; (with_reducible refine (QY.out _).mono ?_); rintro e w2 ⟨rfl, hB⟩; replace B := B.next hB; clear hB) | fail)
        go_ret
        exact ⟨rfl, B⟩
      · have hq : y = true ∨ y = false := by cases y <;> simp
        rcases hq with hq | hq
        · skip
          obtain rfl : y = true := hq
          rw [hB, hC]
          rw [show modeW A 5 2 false true jmp = 5 by simp [modeW]]
          go_enter Tryz.func42, Tryz.ntmps42
          go_wp2_with (first
            | (go_at_call 41; (with_reducible refine (QN.out _).mono ?_); rintro e w2 ⟨rfl, hB⟩; replace B := B.next hB; clear hB)
            | (go_at_call 44; (with_reducible refine (QY.out _).mono ?_); rintro e w2 ⟨rfl, hB⟩; replace B := B.next hB; clear hB) | fail)
          go_ret
          exact ⟨rfl, B⟩
        · skip
          obtain rfl : y = false := hq
          rw [hB, hC]
          rw [show modeW A 5 2 false false jmp = 4 by simp [modeW]]
          go_enter Tryz.func42, Tryz.ntmps42
          go_wp2_with (first
            | (go_at_call 41; (with_reducible refine (QN.out _).mono ?_); rintro e w2 ⟨rfl, hB⟩; replace B := B.next hB; clear hB)
            | (go_at_call 44; (with_reducible refine (QY.out _).mono ?_); rintro e w2 ⟨rfl, hB⟩; replace B := B.next hB; clear hB) | fail)
          go_ret
          exact ⟨rfl, B⟩
      · skip
        rw [hB, hC]
        rw [show modeW A 6 2 false y jmp = 0 by simp [modeW]]
        go_enter Tryz.func42, Tryz.ntmps42
        go_wp2_with (first
          | (go_at_call 41; (with_reducible refine (QN.out _).mono ?_); rintro e w2 ⟨rfl, hB⟩; replace B := B.next hB; clear hB)
          | (go_at_call 44; (with_reducible refine (QY.out _).mono ?_); rintro e w2 ⟨rfl, hB⟩; replace B := B.next hB; clear hB) | fail)
        go_ret
        exact ⟨rfl, B⟩
      · have hq : y = true ∨ y = false := by cases y <;> simp
        rcases hq with hq | hq
        · skip
          obtain rfl : y = true := hq
          rw [hB, hC]
          rw [show modeW A 7 2 false true jmp = 8 by simp [modeW]]
          go_enter Tryz.func42, Tryz.ntmps42
          go_wp2_with (first
            | (go_at_call 41; (with_reducible refine (QN.out _).mono ?_); rintro e w2 ⟨rfl, hB⟩; replace B := B.next hB; clear hB)
            | (go_at_call 44; (with_reducible refine (QY.out _).mono ?_); rintro e w2 ⟨rfl, hB⟩; replace B := B.next hB; clear hB) | fail)
          go_ret
          exact ⟨rfl, B⟩
        · skip
          obtain rfl : y = false := hq
          rw [hB, hC]
          rw [show modeW A 7 2 false false jmp = 7 by simp [modeW]]
          go_enter Tryz.func42, Tryz.ntmps42
          go_wp2_with (first
            | (go_at_call 41; (with_reducible refine (QN.out _).mono ?_); rintro e w2 ⟨rfl, hB⟩; replace B := B.next hB; clear hB)
            | (go_at_call 44; (with_reducible refine (QY.out _).mono ?_); rintro e w2 ⟨rfl, hB⟩; replace B := B.next hB; clear hB) | fail)
          go_ret
          exact ⟨rfl, B⟩
    · rcases hB with hB | hB | hB | hB | hB | hB | hB | hB
      · skip
        rw [hB, hC]
        rw [show modeW A 0 3 false y jmp = 9 by simp [modeW]]
        go_enter Tryz.func42, Tryz.ntmps42
        go_wp2_with (first
          | (go_at_call 41; (with_reducible refine (QN.out _).mono ?_); rintro e w2 ⟨rfl, hB⟩; replace B := B.next hB; clear hB)
          | (go_at_call 44; (with_reducible refine (QY.out _).mono ?_); rintro e w2 ⟨rfl, hB⟩; replace B := B.next hB; clear hB) | fail)
        go_ret
        exact ⟨rfl, B⟩
      · skip
        rw [hB, hC]
        rw [show modeW A 1 3 false y jmp = 3 by simp [modeW]]
        go_enter Tryz.func42, Tryz.ntmps42
        go_wp2_with (first
          | (go_at_call 41; (with_reducible refine (QN.out _).mono ?_); rintro e w2 ⟨rfl, hB⟩; replace B := B.next hB; clear hB)
          | (go_at_call 44; (with_reducible refine (QY.out _).mono ?_); rintro e w2 ⟨rfl, hB⟩; replace B := B.next hB; clear hB) | fail)
        go_ret
        exact ⟨rfl, B⟩
      · skip
        rw [hB, hC]
        rw [show modeW A 2 3 false y jmp = 2 by simp [modeW]]
        go_enter Tryz.func42, Tryz.ntmps42
        go_wp2_with (first
          | (go_at_call 41; (with_reducible refine (QN.out _).mono ?_); rintro e w2 ⟨rfl, hB⟩; replace B := B.next hB; clear hB)
          | (go_at_call 44; (with_reducible refine (QY.out _).mono ?_); rintro e w2 ⟨rfl, hB⟩; replace B := B.next hB; clear hB) | fail)
        go_ret
        exact ⟨rfl, B⟩
      · have hq : jmp = true ∨ jmp = false := by cases jmp <;> simp
        rcases hq with hq | hq
        · skip
          obtain rfl : jmp = true := hq
          rw [hB, hC]
          rw [show modeW A 3 3 false y true = 15 - A by simp [modeW]]
          go_enter Tryz.func42, Tryz.ntmps42
          go_wp2_with (first
            | (go_at_call 41; (with_reducible refine (QN.out _).mono ?_); rintro e w2 ⟨rfl, hB⟩; replace B := B.next hB; clear hB)
            | (go_at_call 44; (with_reducible refine (QY.out _).mono ?_); rintro e w2 ⟨rfl, hB⟩; replace B := B.next hB; clear hB) | fail)
          go_ret
          exact ⟨rfl, B⟩
        · skip
          obtain rfl : jmp = false := hq
          rw [hB, hC]
          rw [show modeW A 3 3 false y false = 6 by simp [modeW]]
          go_enter Tryz.func42, Tryz.ntmps42
          go_wp2_with (first
            | (go_at_call 41; (with_reducible refine (QN.out _).mono ?_); rintro e w2 ⟨rfl, hB⟩; replace B := B.next hB; clear hB)
            | (go_at_call 44; (with_reducible refine (QY.out _).mono ?_); rintro e w2 ⟨rfl, hB⟩; replace B := B.next hB; clear hB) | fail)
          go_ret
          exact ⟨rfl, B⟩
      · skip
        rw [hB, hC]
        rw [show modeW A 4 3 false y jmp = 10 by simp [modeW]]
        go_enter Tryz.func42, Tryz.ntmps42
        go_wp2_with (first
          | (go_at_call 41; (with_reducible refine (QN.out _).mono ?_); rintro e w2 ⟨rfl, hB⟩; replace B := B.next hB; clear hB)
          | (go_at_call 44; (with_reducible refine (QY.out _).mono ?_); rintro e w2 ⟨rfl, hB⟩; replace B := B.next hB; clear hB) | fail)
        go_ret
        exact ⟨rfl, B⟩
      · have hq : y = true ∨ y = false := by cases y <;> simp
        rcases hq with hq | hq
        · skip
          obtain rfl : y = true := hq
          rw [hB, hC]
          rw [show modeW A 5 3 false true jmp = 5 by simp [modeW]]
          go_enter Tryz.func42, Tryz.ntmps42
          go_wp2_with (first
            | (go_at_call 41; (with_reducible refine (QN.out _).mono ?_); rintro e w2 ⟨rfl, hB⟩; replace B := B.next hB; clear hB)
            | (go_at_call 44; (with_reducible refine (QY.out _).mono ?_); rintro e w2 ⟨rfl, hB⟩; replace B := B.next hB; clear hB) | fail)
          go_ret
          exact ⟨rfl, B⟩
        · skip
          obtain rfl : y = false := hq
          rw [hB, hC]
          rw [show modeW A 5 3 false false jmp = 4 by simp [modeW]]
          go_enter Tryz.func42, Tryz.ntmps42
          go_wp2_with (first
            | (go_at_call 41; (with_reducible refine (QN.out _).mono ?_); rintro e w2 ⟨rfl, hB⟩; replace B := B.next hB; clear hB)
            | (go_at_call 44; (with_reducible refine (QY.out _).mono ?_); rintro e w2 ⟨rfl, hB⟩; replace B := B.next hB; clear hB) | fail)
          go_ret
          exact ⟨rfl, B⟩
      · skip
        rw [hB, hC]
        rw [show modeW A 6 3 false y jmp = 8 by simp [modeW]]
        go_enter Tryz.func42, Tryz.ntmps42
        go_wp2_with (first
          | (go_at_call 41; (with_reducible refine (QN.out _).mono ?_); rintro e w2 ⟨rfl, hB⟩; replace B := B.next hB; clear hB)
          | (go_at_call 44; (with_reducible refine (QY.out _).mono ?_); rintro e w2 ⟨rfl, hB⟩; replace B := B.next hB; clear hB) | fail)
        go_ret
        exact ⟨rfl, B⟩
      · have hq : y = true ∨ y = false := by cases y <;> simp
        rcases hq with hq | hq
        · skip
          obtain rfl : y = true := hq
          rw [hB, hC]
          rw [show modeW A 7 3 false true jmp = 8 by simp [modeW]]
          go_enter Tryz.func42, Tryz.ntmps42
          go_wp2_with (first
            | (go_at_call 41; (with_reducible refine (QN.out _).mono ?_); rintro e w2 ⟨rfl, hB⟩; replace B := B.next hB; clear hB)
            | (go_at_call 44; (with_reducible refine (QY.out _).mono ?_); rintro e w2 ⟨rfl, hB⟩; replace B := B.next hB; clear hB) | fail)
          go_ret
          exact ⟨rfl, B⟩
        · skip
          obtain rfl : y = false := hq
          rw [hB, hC]
          rw [show modeW A 7 3 false false jmp = 7 by simp [modeW]]
          go_enter Tryz.func42, Tryz.ntmps42
          go_wp2_with (first
            | (go_at_call 41; (with_reducible refine (QN.out _).mono ?_); rintro e w2 ⟨rfl, hB⟩; replace B := B.next hB; clear hB)
            | (go_at_call 44; (with_reducible refine (QY.out _).mono ?_); rintro e w2 ⟨rfl, hB⟩; replace B := B.next hB; clear hB) | fail)
          go_ret
          exact ⟨rfl, B⟩
  · rw [show modeW A (op / 4 % 8) (op % 4) true y jmp = 20 by simp [modeW]]
    go_enter Tryz.func42, Tryz.ntmps42
    go_wp2_with (first
      | (go_at_call 41; (with_reducible refine (QN.out _).mono ?_); rintro e w2 ⟨rfl, hB⟩; replace B := B.next hB; clear hB)
      | (go_at_call 44; (with_reducible refine (QY.out _).mono ?_); rintro e w2 ⟨rfl, hB⟩; replace B := B.next hB; clear hB) | fail)
    go_ret
    exact ⟨rfl, B⟩
end Go.Proofs.YtopmlmpadkdhjaaGreatDoor
