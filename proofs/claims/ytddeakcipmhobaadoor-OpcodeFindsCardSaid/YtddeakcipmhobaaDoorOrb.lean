/-
  The document's names of opcodes. Over this seat's translation; opcodes are from 0 to 255. (Written by gen_op.py.)
-/
import Derived.Test.YtddeakcipmhobaaDoorOra
namespace Go.Proofs.YtddeakcipmhobaaDoor
open Go.RowKit
set_option linter.unusedSimpArgs false
set_option linter.unusedVariables false
set_option maxRecDepth 20000

theorem rnth8 (d : Array UInt8) (hd : d.size = 32) (a : Int) (w : World) (a0 : 0 ≤ a) (a1 : a < 8) :
    Calls Tryd.prog 29 #[.string ⟨d⟩, .int .i64 a] w fun e w' => e = .returned (.string (cut3 ⟨d⟩ (4 * a.toNat))) ∧ Below w.heap.size w w' := by
  obtain ⟨n, rfl⟩ := Int.eq_ofNat_of_zero_le a0
  have hs : (⟨d⟩ : ByteArray).size = 32 := hd
  exact rnth_ct ⟨d⟩ n w (by omega) (by omega)
def zeroV (a b : Int) : ByteArray := if b = 0 then cut3 ⟨#[66, 82, 75, 32, 74, 83, 82, 32, 82, 84, 73, 32, 82, 84, 83, 32, 78, 79, 80, 32, 76, 68, 89, 32, 67, 80, 89, 32, 67, 80, 88, 32]⟩ (4 * a.toNat) else if b = 2 then cut3 ⟨#[80, 72, 80, 32, 80, 76, 80, 32, 80, 72, 65, 32, 80, 76, 65, 32, 68, 69, 89, 32, 84, 65, 89, 32, 73, 78, 89, 32, 73, 78, 88, 32]⟩ (4 * a.toNat) else if b = 4 then cut3 ⟨#[66, 80, 76, 32, 66, 77, 73, 32, 66, 86, 67, 32, 66, 86, 83, 32, 66, 67, 67, 32, 66, 67, 83, 32, 66, 78, 69, 32, 66, 69, 81, 32]⟩ (4 * a.toNat) else if b = 6 then cut3 ⟨#[67, 76, 67, 32, 83, 69, 67, 32, 67, 76, 73, 32, 83, 69, 73, 32, 84, 89, 65, 32, 67, 76, 86, 32, 67, 76, 68, 32, 83, 69, 68, 32]⟩ (4 * a.toNat) else if b = 1 then cut3 ⟨#[78, 79, 80, 32, 66, 73, 84, 32, 78, 79, 80, 32, 78, 79, 80, 32, 83, 84, 89, 32, 76, 68, 89, 32, 67, 80, 89, 32, 67, 80, 88, 32]⟩ (4 * a.toNat) else if b = 3 then cut3 ⟨#[78, 79, 80, 32, 66, 73, 84, 32, 74, 77, 80, 32, 74, 77, 80, 32, 83, 84, 89, 32, 76, 68, 89, 32, 67, 80, 89, 32, 67, 80, 88, 32]⟩ (4 * a.toNat) else if b = 5 then cut3 ⟨#[78, 79, 80, 32, 78, 79, 80, 32, 78, 79, 80, 32, 78, 79, 80, 32, 83, 84, 89, 32, 76, 68, 89, 32, 78, 79, 80, 32, 78, 79, 80, 32]⟩ (4 * a.toNat) else cut3 ⟨#[78, 79, 80, 32, 78, 79, 80, 32, 78, 79, 80, 32, 78, 79, 80, 32, 83, 72, 89, 32, 76, 68, 89, 32, 78, 79, 80, 32, 78, 79, 80, 32]⟩ (4 * a.toNat)
set_option maxHeartbeats 2000000 in
theorem rzero_ct (a b : Int) (w : World) (a0 : 0 ≤ a) (a1 : a < 8) (b0 : 0 ≤ b) (b1 : b < 8) :
    Calls Tryd.prog 26 #[.int .i64 a, .int .i64 b] w fun e w' => e = .returned (.string (zeroV a b)) ∧ Below w.heap.size w w' := by
  have hb : b = 0 ∨ b = 1 ∨ b = 2 ∨ b = 3 ∨ b = 4 ∨ b = 5 ∨ b = 6 ∨ b = 7 := by omega
  have B := Below.refl w.heap.size w
  rcases hb with rfl | rfl | rfl | rfl | rfl | rfl | rfl | rfl
  all_goals
    clear b0 b1
    go_enter Tryd.func26, Tryd.ntmps26
    go_wp2_with (first
      | (go_at_call 29; refine (rnth8 _ rfl a _ a0 a1).mono ?_; rintro e w2 ⟨rfl, hB⟩; replace B := B.next hB; clear hB) | fail)
    go_ret
    exact ⟨rfl, B⟩
def twoV (a b : Int) : ByteArray := if b = 0 then cut3 ⟨#[74, 65, 77, 32, 74, 65, 77, 32, 74, 65, 77, 32, 74, 65, 77, 32, 78, 79, 80, 32, 76, 68, 88, 32, 78, 79, 80, 32, 78, 79, 80, 32]⟩ (4 * a.toNat) else if b = 2 then cut3 ⟨#[65, 83, 76, 32, 82, 79, 76, 32, 76, 83, 82, 32, 82, 79, 82, 32, 84, 88, 65, 32, 84, 65, 88, 32, 68, 69, 88, 32, 78, 79, 80, 32]⟩ (4 * a.toNat) else if b = 4 then ⟨#[74, 65, 77]⟩ else if b = 6 then cut3 ⟨#[78, 79, 80, 32, 78, 79, 80, 32, 78, 79, 80, 32, 78, 79, 80, 32, 84, 88, 83, 32, 84, 83, 88, 32, 78, 79, 80, 32, 78, 79, 80, 32]⟩ (4 * a.toNat) else if b = 7 then cut3 ⟨#[65, 83, 76, 32, 82, 79, 76, 32, 76, 83, 82, 32, 82, 79, 82, 32, 83, 72, 88, 32, 76, 68, 88, 32, 68, 69, 67, 32, 73, 78, 67, 32]⟩ (4 * a.toNat) else cut3 ⟨#[65, 83, 76, 32, 82, 79, 76, 32, 76, 83, 82, 32, 82, 79, 82, 32, 83, 84, 88, 32, 76, 68, 88, 32, 68, 69, 67, 32, 73, 78, 67, 32]⟩ (4 * a.toNat)
set_option maxHeartbeats 2000000 in
theorem rtwo_ct (a b : Int) (w : World) (a0 : 0 ≤ a) (a1 : a < 8) (b0 : 0 ≤ b) (b1 : b < 8) :
    Calls Tryd.prog 27 #[.int .i64 a, .int .i64 b] w fun e w' => e = .returned (.string (twoV a b)) ∧ Below w.heap.size w w' := by
  have hb : b = 0 ∨ b = 1 ∨ b = 2 ∨ b = 3 ∨ b = 4 ∨ b = 5 ∨ b = 6 ∨ b = 7 := by omega
  have B := Below.refl w.heap.size w
  rcases hb with rfl | rfl | rfl | rfl | rfl | rfl | rfl | rfl
  all_goals
    clear b0 b1
    go_enter Tryd.func27, Tryd.ntmps27
    go_wp2_with (first
      | (go_at_call 29; refine (rnth8 _ rfl a _ a0 a1).mono ?_; rintro e w2 ⟨rfl, hB⟩; replace B := B.next hB; clear hB) | fail)
    go_ret
    exact ⟨rfl, B⟩
def threeV (a b : Int) : ByteArray := if b = 2 then cut3 ⟨#[65, 78, 67, 32, 65, 78, 67, 32, 65, 76, 82, 32, 65, 82, 82, 32, 65, 78, 69, 32, 76, 88, 65, 32, 83, 66, 88, 32, 83, 66, 67, 32]⟩ (4 * a.toNat) else if b = 4 then cut3 ⟨#[83, 76, 79, 32, 82, 76, 65, 32, 83, 82, 69, 32, 82, 82, 65, 32, 83, 72, 65, 32, 76, 65, 88, 32, 68, 67, 80, 32, 73, 83, 67, 32]⟩ (4 * a.toNat) else if b = 6 then cut3 ⟨#[83, 76, 79, 32, 82, 76, 65, 32, 83, 82, 69, 32, 82, 82, 65, 32, 84, 65, 83, 32, 76, 65, 83, 32, 68, 67, 80, 32, 73, 83, 67, 32]⟩ (4 * a.toNat) else if b = 7 then cut3 ⟨#[83, 76, 79, 32, 82, 76, 65, 32, 83, 82, 69, 32, 82, 82, 65, 32, 83, 72, 65, 32, 76, 65, 88, 32, 68, 67, 80, 32, 73, 83, 67, 32]⟩ (4 * a.toNat) else cut3 ⟨#[83, 76, 79, 32, 82, 76, 65, 32, 83, 82, 69, 32, 82, 82, 65, 32, 83, 65, 88, 32, 76, 65, 88, 32, 68, 67, 80, 32, 73, 83, 67, 32]⟩ (4 * a.toNat)
set_option maxHeartbeats 2000000 in
theorem rthree_ct (a b : Int) (w : World) (a0 : 0 ≤ a) (a1 : a < 8) (b0 : 0 ≤ b) (b1 : b < 8) :
    Calls Tryd.prog 28 #[.int .i64 a, .int .i64 b] w fun e w' => e = .returned (.string (threeV a b)) ∧ Below w.heap.size w w' := by
  have hb : b = 0 ∨ b = 1 ∨ b = 2 ∨ b = 3 ∨ b = 4 ∨ b = 5 ∨ b = 6 ∨ b = 7 := by omega
  have B := Below.refl w.heap.size w
  rcases hb with rfl | rfl | rfl | rfl | rfl | rfl | rfl | rfl
  all_goals
    clear b0 b1
    go_enter Tryd.func28, Tryd.ntmps28
    go_wp2_with (first
      | (go_at_call 29; refine (rnth8 _ rfl a _ a0 a1).mono ?_; rintro e w2 ⟨rfl, hB⟩; replace B := B.next hB; clear hB) | fail)
    go_ret
    exact ⟨rfl, B⟩
def restV (a b : Int) : ByteArray := if a = 4 ∧ b = 2 then ⟨#[78, 79, 80]⟩ else cut3 ⟨#[79, 82, 65, 32, 65, 78, 68, 32, 69, 79, 82, 32, 65, 68, 67, 32, 83, 84, 65, 32, 76, 68, 65, 32, 67, 77, 80, 32, 83, 66, 67, 32]⟩ (4 * a.toNat)
def nameV (op : Int) : ByteArray := if op % 4 = 0 then zeroV (op / 32) (op / 4 % 8) else if op % 4 = 2 then twoV (op / 32) (op / 4 % 8) else if op % 4 = 3 then threeV (op / 32) (op / 4 % 8) else restV (op / 32) (op / 4 % 8)
set_option maxHeartbeats 2000000 in
theorem rname_ct (op : Int) (w : World) (o0 : 0 ≤ op) (o1 : op < 256) :
    Calls Tryd.prog 20 #[.int .i64 op] w fun e w' => e = .returned (.string (nameV op)) ∧ Below w.heap.size w w' := by
  have Q0 := Lib.hid (fun wr => rzero_ct (op / 32) (op / 4 % 8) wr (by omega) (by omega) (by omega) (by omega))
  have Q2 := Lib.hid (fun wr => rtwo_ct (op / 32) (op / 4 % 8) wr (by omega) (by omega) (by omega) (by omega))
  have Q3 := Lib.hid (fun wr => rthree_ct (op / 32) (op / 4 % 8) wr (by omega) (by omega) (by omega) (by omega))
  have QN := Lib.hid (fun wr => rnth8 #[79, 82, 65, 32, 65, 78, 68, 32, 69, 79, 82, 32, 65, 68, 67, 32, 83, 84, 65, 32, 76, 68, 65, 32, 67, 77, 80, 32, 83, 66, 67, 32] rfl (op / 32) wr (by omega) (by omega))
  have QM := Lib.hid (fun wr => rnth8 #[79, 82, 65, 32, 65, 78, 68, 32, 69, 79, 82, 32, 65, 68, 67, 32, 83, 84, 65, 32, 76, 68, 65, 32, 67, 77, 80, 32, 83, 66, 67, 32] rfl 4 wr (by decide) (by decide))
  have B := Below.refl w.heap.size w
  unfold nameV restV
  have hr : op % 4 = 0 ∨ op % 4 = 2 ∨ op % 4 = 3 ∨ (op % 4 = 1 ∧ ¬ (op / 32 = 4)) ∨ (op % 4 = 1 ∧ op / 32 = 4 ∧ op / 4 % 8 = 2) ∨ (op % 4 = 1 ∧ op / 32 = 4 ∧ ¬ (op / 4 % 8 = 2)) := by omega
  rcases hr with hr | hr | hr | ⟨hr, h4⟩ | ⟨hr, h4, h2⟩ | ⟨hr, h4, h2⟩
  · simp only [hr, Int.reduceEq, if_true, if_false, and_true, true_and, false_and, and_false, reduceIte]
    go_enter Tryd.func20, Tryd.ntmps20
    go_wp2_with (first
      | (go_at_call 26; (with_reducible refine (Q0.out _).mono ?_); rintro e w2 ⟨rfl, hB⟩; replace B := B.next hB; clear hB)
      | (go_at_call 27; (with_reducible refine (Q2.out _).mono ?_); rintro e w2 ⟨rfl, hB⟩; replace B := B.next hB; clear hB)
      | (go_at_call 28; (with_reducible refine (Q3.out _).mono ?_); rintro e w2 ⟨rfl, hB⟩; replace B := B.next hB; clear hB)
      | (go_at_call 29; (first | (with_reducible refine (QN.out _).mono ?_) | (with_reducible refine (QM.out _).mono ?_)); rintro e w2 ⟨rfl, hB⟩; replace B := B.next hB; clear hB) | fail)
    go_ret
    exact ⟨rfl, B⟩
  · simp only [hr, Int.reduceEq, if_true, if_false, and_true, true_and, false_and, and_false, reduceIte]
    go_enter Tryd.func20, Tryd.ntmps20
    go_wp2_with (first
      | (go_at_call 26; (with_reducible refine (Q0.out _).mono ?_); rintro e w2 ⟨rfl, hB⟩; replace B := B.next hB; clear hB)
      | (go_at_call 27; (with_reducible refine (Q2.out _).mono ?_); rintro e w2 ⟨rfl, hB⟩; replace B := B.next hB; clear hB)
      | (go_at_call 28; (with_reducible refine (Q3.out _).mono ?_); rintro e w2 ⟨rfl, hB⟩; replace B := B.next hB; clear hB)
      | (go_at_call 29; (first | (with_reducible refine (QN.out _).mono ?_) | (with_reducible refine (QM.out _).mono ?_)); rintro e w2 ⟨rfl, hB⟩; replace B := B.next hB; clear hB) | fail)
    go_ret
    exact ⟨rfl, B⟩
  · simp only [hr, Int.reduceEq, if_true, if_false, and_true, true_and, false_and, and_false, reduceIte]
    go_enter Tryd.func20, Tryd.ntmps20
    go_wp2_with (first
      | (go_at_call 26; (with_reducible refine (Q0.out _).mono ?_); rintro e w2 ⟨rfl, hB⟩; replace B := B.next hB; clear hB)
      | (go_at_call 27; (with_reducible refine (Q2.out _).mono ?_); rintro e w2 ⟨rfl, hB⟩; replace B := B.next hB; clear hB)
      | (go_at_call 28; (with_reducible refine (Q3.out _).mono ?_); rintro e w2 ⟨rfl, hB⟩; replace B := B.next hB; clear hB)
      | (go_at_call 29; (first | (with_reducible refine (QN.out _).mono ?_) | (with_reducible refine (QM.out _).mono ?_)); rintro e w2 ⟨rfl, hB⟩; replace B := B.next hB; clear hB) | fail)
    go_ret
    exact ⟨rfl, B⟩
  · simp only [hr, h4, Int.reduceEq, if_true, if_false, and_true, true_and, false_and, and_false, reduceIte]
    go_enter Tryd.func20, Tryd.ntmps20
    go_wp2_with (first
      | (go_at_call 26; (with_reducible refine (Q0.out _).mono ?_); rintro e w2 ⟨rfl, hB⟩; replace B := B.next hB; clear hB)
      | (go_at_call 27; (with_reducible refine (Q2.out _).mono ?_); rintro e w2 ⟨rfl, hB⟩; replace B := B.next hB; clear hB)
      | (go_at_call 28; (with_reducible refine (Q3.out _).mono ?_); rintro e w2 ⟨rfl, hB⟩; replace B := B.next hB; clear hB)
      | (go_at_call 29; (first | (with_reducible refine (QN.out _).mono ?_) | (with_reducible refine (QM.out _).mono ?_)); rintro e w2 ⟨rfl, hB⟩; replace B := B.next hB; clear hB) | fail)
    go_ret
    exact ⟨rfl, B⟩
  · simp only [hr, h4, h2, Int.reduceEq, if_true, if_false, and_true, true_and, false_and, and_false, reduceIte]
    go_enter Tryd.func20, Tryd.ntmps20
    go_wp2_with (first
      | (go_at_call 26; (with_reducible refine (Q0.out _).mono ?_); rintro e w2 ⟨rfl, hB⟩; replace B := B.next hB; clear hB)
      | (go_at_call 27; (with_reducible refine (Q2.out _).mono ?_); rintro e w2 ⟨rfl, hB⟩; replace B := B.next hB; clear hB)
      | (go_at_call 28; (with_reducible refine (Q3.out _).mono ?_); rintro e w2 ⟨rfl, hB⟩; replace B := B.next hB; clear hB)
      | (go_at_call 29; (first | (with_reducible refine (QN.out _).mono ?_) | (with_reducible refine (QM.out _).mono ?_)); rintro e w2 ⟨rfl, hB⟩; replace B := B.next hB; clear hB) | fail)
    go_ret
    exact ⟨rfl, B⟩
  · simp only [hr, h4, h2, Int.reduceEq, if_true, if_false, and_true, true_and, false_and, and_false, reduceIte]
    go_enter Tryd.func20, Tryd.ntmps20
    go_wp2_with (first
      | (go_at_call 26; (with_reducible refine (Q0.out _).mono ?_); rintro e w2 ⟨rfl, hB⟩; replace B := B.next hB; clear hB)
      | (go_at_call 27; (with_reducible refine (Q2.out _).mono ?_); rintro e w2 ⟨rfl, hB⟩; replace B := B.next hB; clear hB)
      | (go_at_call 28; (with_reducible refine (Q3.out _).mono ?_); rintro e w2 ⟨rfl, hB⟩; replace B := B.next hB; clear hB)
      | (go_at_call 29; (first | (with_reducible refine (QN.out _).mono ?_) | (with_reducible refine (QM.out _).mono ?_)); rintro e w2 ⟨rfl, hB⟩; replace B := B.next hB; clear hB) | fail)
    go_ret
    exact ⟨rfl, B⟩
end Go.Proofs.YtddeakcipmhobaaDoor
