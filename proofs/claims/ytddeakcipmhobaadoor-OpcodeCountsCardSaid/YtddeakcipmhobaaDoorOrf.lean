/-
  The document's opcodes as lists, with which the kernel reckons. No condition on the program. (Written by gen_op4.py.)
-/
import Derived.Test.YtddeakcipmhobaaDoorOre
import Derived.Test.YtddeakcipmhobaaDoorHbt
import Derived.Laws.Strings
namespace Go.Proofs.YtddeakcipmhobaaDoor
open Go.RowKit
set_option linter.unusedSimpArgs false
set_option linter.unusedVariables false
set_option maxRecDepth 20000

def cutL (l : List UInt8) (i : Nat) : List UInt8 := (l.drop i).take 3
theorem cut3_list (s : ByteArray) (i : Nat) : (cut3 s i).toList = cutL s.data.toList i := by
  unfold cut3 cutL
  rw [ByteArray.toList_eq, ByteArray.data_extract, Array.toList_extract]
  simp [List.extract]
def isInLK (l s : List UInt8) : Nat → Bool
  | 0 => false
  | k + 1 => isInLK l s k || cutL l (4 * k) == s
def isInL (l s : List UInt8) : Bool := isInLK l s (l.length / 4)
theorem isIn_list (l s : ByteArray) : isIn l s = isInL l.data.toList s.toList := by
  have h : ∀ k, isInK l s k = isInLK l.data.toList s.toList k := by
    intro k
    induction k with
    | zero => rfl
    | succ k ih => rw [isInK, isInLK, ih, cut3_list]
  unfold isIn isInL
  rw [h]
  congr 1
def zeroL (a b : Int) : List UInt8 := if b = 0 then cutL [66, 82, 75, 32, 74, 83, 82, 32, 82, 84, 73, 32, 82, 84, 83, 32, 78, 79, 80, 32, 76, 68, 89, 32, 67, 80, 89, 32, 67, 80, 88, 32] (4 * a.toNat) else if b = 2 then cutL [80, 72, 80, 32, 80, 76, 80, 32, 80, 72, 65, 32, 80, 76, 65, 32, 68, 69, 89, 32, 84, 65, 89, 32, 73, 78, 89, 32, 73, 78, 88, 32] (4 * a.toNat) else if b = 4 then cutL [66, 80, 76, 32, 66, 77, 73, 32, 66, 86, 67, 32, 66, 86, 83, 32, 66, 67, 67, 32, 66, 67, 83, 32, 66, 78, 69, 32, 66, 69, 81, 32] (4 * a.toNat) else if b = 6 then cutL [67, 76, 67, 32, 83, 69, 67, 32, 67, 76, 73, 32, 83, 69, 73, 32, 84, 89, 65, 32, 67, 76, 86, 32, 67, 76, 68, 32, 83, 69, 68, 32] (4 * a.toNat) else if b = 1 then cutL [78, 79, 80, 32, 66, 73, 84, 32, 78, 79, 80, 32, 78, 79, 80, 32, 83, 84, 89, 32, 76, 68, 89, 32, 67, 80, 89, 32, 67, 80, 88, 32] (4 * a.toNat) else if b = 3 then cutL [78, 79, 80, 32, 66, 73, 84, 32, 74, 77, 80, 32, 74, 77, 80, 32, 83, 84, 89, 32, 76, 68, 89, 32, 67, 80, 89, 32, 67, 80, 88, 32] (4 * a.toNat) else if b = 5 then cutL [78, 79, 80, 32, 78, 79, 80, 32, 78, 79, 80, 32, 78, 79, 80, 32, 83, 84, 89, 32, 76, 68, 89, 32, 78, 79, 80, 32, 78, 79, 80, 32] (4 * a.toNat) else cutL [78, 79, 80, 32, 78, 79, 80, 32, 78, 79, 80, 32, 78, 79, 80, 32, 83, 72, 89, 32, 76, 68, 89, 32, 78, 79, 80, 32, 78, 79, 80, 32] (4 * a.toNat)
theorem zeroL_eq (a b : Int) : (zeroV a b).toList = zeroL a b := by
  unfold zeroV zeroL
  repeat' split
  all_goals first | exact cut3_list _ _ | (rw [ByteArray.toList_eq])
def twoL (a b : Int) : List UInt8 := if b = 0 then cutL [74, 65, 77, 32, 74, 65, 77, 32, 74, 65, 77, 32, 74, 65, 77, 32, 78, 79, 80, 32, 76, 68, 88, 32, 78, 79, 80, 32, 78, 79, 80, 32] (4 * a.toNat) else if b = 2 then cutL [65, 83, 76, 32, 82, 79, 76, 32, 76, 83, 82, 32, 82, 79, 82, 32, 84, 88, 65, 32, 84, 65, 88, 32, 68, 69, 88, 32, 78, 79, 80, 32] (4 * a.toNat) else if b = 4 then [74, 65, 77] else if b = 6 then cutL [78, 79, 80, 32, 78, 79, 80, 32, 78, 79, 80, 32, 78, 79, 80, 32, 84, 88, 83, 32, 84, 83, 88, 32, 78, 79, 80, 32, 78, 79, 80, 32] (4 * a.toNat) else if b = 7 then cutL [65, 83, 76, 32, 82, 79, 76, 32, 76, 83, 82, 32, 82, 79, 82, 32, 83, 72, 88, 32, 76, 68, 88, 32, 68, 69, 67, 32, 73, 78, 67, 32] (4 * a.toNat) else cutL [65, 83, 76, 32, 82, 79, 76, 32, 76, 83, 82, 32, 82, 79, 82, 32, 83, 84, 88, 32, 76, 68, 88, 32, 68, 69, 67, 32, 73, 78, 67, 32] (4 * a.toNat)
theorem twoL_eq (a b : Int) : (twoV a b).toList = twoL a b := by
  unfold twoV twoL
  repeat' split
  all_goals first | exact cut3_list _ _ | (rw [ByteArray.toList_eq])
def threeL (a b : Int) : List UInt8 := if b = 2 then cutL [65, 78, 67, 32, 65, 78, 67, 32, 65, 76, 82, 32, 65, 82, 82, 32, 65, 78, 69, 32, 76, 88, 65, 32, 83, 66, 88, 32, 83, 66, 67, 32] (4 * a.toNat) else if b = 4 then cutL [83, 76, 79, 32, 82, 76, 65, 32, 83, 82, 69, 32, 82, 82, 65, 32, 83, 72, 65, 32, 76, 65, 88, 32, 68, 67, 80, 32, 73, 83, 67, 32] (4 * a.toNat) else if b = 6 then cutL [83, 76, 79, 32, 82, 76, 65, 32, 83, 82, 69, 32, 82, 82, 65, 32, 84, 65, 83, 32, 76, 65, 83, 32, 68, 67, 80, 32, 73, 83, 67, 32] (4 * a.toNat) else if b = 7 then cutL [83, 76, 79, 32, 82, 76, 65, 32, 83, 82, 69, 32, 82, 82, 65, 32, 83, 72, 65, 32, 76, 65, 88, 32, 68, 67, 80, 32, 73, 83, 67, 32] (4 * a.toNat) else cutL [83, 76, 79, 32, 82, 76, 65, 32, 83, 82, 69, 32, 82, 82, 65, 32, 83, 65, 88, 32, 76, 65, 88, 32, 68, 67, 80, 32, 73, 83, 67, 32] (4 * a.toNat)
theorem threeL_eq (a b : Int) : (threeV a b).toList = threeL a b := by
  unfold threeV threeL
  repeat' split
  all_goals first | exact cut3_list _ _ | (rw [ByteArray.toList_eq])
def restL (a b : Int) : List UInt8 := if a = 4 ∧ b = 2 then [78, 79, 80] else cutL [79, 82, 65, 32, 65, 78, 68, 32, 69, 79, 82, 32, 65, 68, 67, 32, 83, 84, 65, 32, 76, 68, 65, 32, 67, 77, 80, 32, 83, 66, 67, 32] (4 * a.toNat)
theorem restL_eq (a b : Int) : (restV a b).toList = restL a b := by
  unfold restV restL
  split
  · rw [ByteArray.toList_eq]
  · exact cut3_list _ _
def nameL (op : Int) : List UInt8 := if op % 4 = 0 then zeroL (op / 32) (op / 4 % 8) else if op % 4 = 2 then twoL (op / 32) (op / 4 % 8) else if op % 4 = 3 then threeL (op / 32) (op / 4 % 8) else restL (op / 32) (op / 4 % 8)
theorem nameV_list (op : Int) : (nameV op).toList = nameL op := by
  unfold nameV nameL
  split
  · exact zeroL_eq _ _
  · split
    · exact twoL_eq _ _
    · split
      · exact threeL_eq _ _
      · exact restL_eq _ _
def modeL (op : Int) : Int := modeW (op / 32) (op / 4 % 8) (op % 4) (nameL op == [74, 65, 77]) (isInL [83, 84, 88, 32, 76, 68, 88, 32, 83, 65, 88, 32, 76, 65, 88, 32, 83, 72, 88, 32, 83, 72, 65, 32] (nameL op)) (nameL op == [74, 77, 80])
theorem modeV_list (op : Int) : modeV op = modeL op := by
  unfold modeV modeL
  rw [isIn_list, nameV_list]
def useL (op : Int) : Int := useW (modeL op) (isInL [83, 84, 65, 32, 83, 84, 88, 32, 83, 84, 89, 32, 83, 65, 88, 32, 83, 72, 65, 32, 83, 72, 88, 32, 83, 72, 89, 32, 84, 65, 83, 32] (nameL op)) (isInL [65, 83, 76, 32, 76, 83, 82, 32, 82, 79, 76, 32, 82, 79, 82, 32, 73, 78, 67, 32, 68, 69, 67, 32, 83, 76, 79, 32, 82, 76, 65, 32, 83, 82, 69, 32, 82, 82, 65, 32, 68, 67, 80, 32, 73, 83, 67, 32] (nameL op))
theorem useV_list (op : Int) : useV op = useL op := by
  unfold useV useN useL
  rw [isIn_list, isIn_list, nameV_list, modeV_list]
def goodL (op : Int) : Bool := goodW op (isInL [65, 76, 82, 32, 65, 78, 67, 32, 65, 78, 69, 32, 65, 82, 82, 32, 68, 67, 80, 32, 73, 83, 67, 32, 74, 65, 77, 32, 76, 65, 83, 32, 76, 65, 88, 32, 76, 88, 65, 32, 82, 76, 65, 32, 82, 82, 65, 32, 83, 65, 88, 32, 83, 66, 88, 32, 83, 72, 65, 32, 83, 72, 88, 32, 83, 72, 89, 32, 83, 76, 79, 32, 83, 82, 69, 32, 84, 65, 83, 32] (nameL op)) (nameL op == [78, 79, 80])
theorem goodV_list (op : Int) : goodV op = goodL op := by
  unfold goodV goodL
  rw [isIn_list, nameV_list]
def cyL (op : Int) : Int := cycV (modeL op) (useL op)
def crL (op : Int) : Bool := crossV (modeL op) (useL op)
/-- All that the document says of an opcode. -/
theorem decC_list (op : Int) : decC op = opC (nameV op) (modeL op) (useL op) (cyL op) (crL op) (goodL op) := by
  unfold decC cyL crL
  rw [useV_list, modeV_list, goodV_list]
/-- The chapter's counts, and examples. -/
theorem good_151 : ((List.range 256).filter fun n : Nat => goodL (n : Int)).length = 151 := by decide +kernel
theorem jam_12 : ((List.range 256).filter fun n : Nat => modeL (n : Int) == 20).length = 12 := by decide +kernel
theorem good_once : (((List.range 256).filter fun n : Nat => goodL (n : Int)).map fun n : Nat => (nameL (n : Int), modeL (n : Int))).Nodup := by decide +kernel
theorem jam_names (op : Int) (o0 : 0 ≤ op) (o1 : op < 256) : (nameL op == [74, 65, 77]) = (modeL op == 20) ∧ (goodL op = true → modeL op ≠ 20) := byte_all (p := fun op => (nameL op == [74, 65, 77]) = (modeL op == 20) ∧ (goodL op = true → modeL op ≠ 20)) (by decide +kernel) op o0 o1
theorem op_cycles (op : Int) (o0 : 0 ≤ op) (o1 : op < 256) : (modeL op = 20 → cyL op = 0) ∧ (modeL op ≠ 20 → 2 ≤ cyL op ∧ cyL op ≤ 8 ∧ longV (modeL op) ≤ cyL op) := byte_all (p := fun op => (modeL op = 20 → cyL op = 0) ∧ (modeL op ≠ 20 → 2 ≤ cyL op ∧ cyL op ≤ 8 ∧ longV (modeL op) ≤ cyL op)) (by decide +kernel) op o0 o1
theorem op_more (m : Int) (m0 : 0 ≤ m) (m1 : m ≤ 20) (hm : 3 ≤ m ∧ m ≤ 10) : cycV m 3 = cycV m 1 + (if crossV m 1 = true then 3 else 2) ∧ crossV m 3 = false := by
  have : m = 3 ∨ m = 4 ∨ m = 5 ∨ m = 6 ∨ m = 7 ∨ m = 8 ∨ m = 9 ∨ m = 10 := by omega
  rcases this with rfl | rfl | rfl | rfl | rfl | rfl | rfl | rfl <;> decide
theorem op_a9 : nameL 0xa9 = [76, 68, 65] ∧ modeL 0xa9 = 2 ∧ useL 0xa9 = 1 ∧ cyL 0xa9 = 2 ∧ goodL 0xa9 = true := by decide +kernel
theorem op_uses (op : Int) (o0 : 0 ≤ op) (o1 : op < 256) : (0 ≤ useL op ∧ useL op ≤ 3 ∧ 0 ≤ modeL op ∧ modeL op ≤ 20 ∧ (nameL op).length = 3) ∧ ((useL op = 2 ∨ useL op = 3) → 3 ≤ modeL op ∧ modeL op ≤ 10) ∧ (useL op = 0 ↔ ¬ ((3 ≤ modeL op ∧ modeL op ≤ 10) ∨ modeL op = 2)) ∧ (crL op = true → useL op = 1 ∨ modeL op = 11) :=
  byte_all (p := fun op => (0 ≤ useL op ∧ useL op ≤ 3 ∧ 0 ≤ modeL op ∧ modeL op ≤ 20 ∧ (nameL op).length = 3) ∧ ((useL op = 2 ∨ useL op = 3) → 3 ≤ modeL op ∧ modeL op ≤ 10) ∧ (useL op = 0 ↔ ¬ ((3 ≤ modeL op ∧ modeL op ≤ 10) ∨ modeL op = 2)) ∧ (crL op = true → useL op = 1 ∨ modeL op = 11)) (by decide +kernel) op o0 o1
end Go.Proofs.YtddeakcipmhobaaDoor
