/-
  What a printed policy reads as: itself; no world.
-/
import Derived.Test.YtjiilcnbajcdhaaGreatDoorPpm
import Derived.Test.YtjiilcnbajcdhaaGreatDoorRnl
import Derived.Test.YtjiilcnbajcdhaaGreatDoorLpl
namespace Go.Proofs.YtjiilcnbajcdhaaGreatDoor
open Go

/-- Ranges of an area, as natural numbers. -/
def natsB (n : Int) (l : List (Int × Int)) : Prop := ∀ r ∈ l, 0 ≤ r.1 ∧ r.1 ≤ r.2 ∧ r.2 < n
def rLine (word : List UInt8) (r : Int × Int) : List UInt8 := word ++ (num4 r.1.toNat ++ 45 :: num4 r.2.toNat)
theorem lineP_nat (word : List UInt8) (r : Int × Int) (h : 0 ≤ r.1 ∧ r.1 ≤ r.2 ∧ r.2 < 65536) : lineP word r = rLine word r ++ [10] := by
  have e1 : fourB r.1 = num4 r.1.toNat := by
    have := fourB_num4 r.1.toNat (by omega)
    rwa [Int.toNat_of_nonneg h.1] at this
  have e2 : fourB r.2 = num4 r.2.toNat := by
    have := fourB_num4 r.2.toNat (by omega)
    rwa [Int.toNat_of_nonneg (by omega)] at this
  unfold lineP rLine
  rw [e1, e2]
  simp
theorem rLine_ten (word : List UInt8) (hw : 10 ∉ word) (r : Int × Int) (h : 0 ≤ r.1 ∧ r.1 ≤ r.2 ∧ r.2 < 65536) : 10 ∉ rLine word r := by
  have a := (num4_mem r.1.toNat (by omega)).2
  have b := (num4_mem r.2.toNat (by omega)).2
  simp [rLine, hw, a, b]
theorem lines_many (word : List UInt8) (hw : 10 ∉ word) (rest : List UInt8) : ∀ l : List (Int × Int), natsB 65536 l → linesOf (linesP word l ++ rest) = l.map (rLine word) ++ linesOf rest
  | [], _ => rfl
  | r :: l, h => by
    have h1 := h r (List.mem_cons_self ..)
    have ih := lines_many word hw rest l fun x hx => h x (List.mem_cons_of_mem _ hx)
    have e : linesP word (r :: l) ++ rest = rLine word r ++ 10 :: (linesP word l ++ rest) := by
      show ((lineP word r) ++ linesP word l) ++ rest = _
      rw [lineP_nat word r h1]
      simp
    rw [e, linesOf_first _ _ (rLine_ten word hw r h1), ih]
    rfl
theorem cls_rRam (r : Int × Int) (h : 0 ≤ r.1 ∧ r.1 ≤ r.2 ∧ r.2 < 2048) : cls (rLine ramW r) = .ram r := by
  have := cls_ram (f := r.1.toNat) (g := r.2.toNat) (by omega) (by omega) (by omega)
  rw [Int.toNat_of_nonneg h.1, Int.toNat_of_nonneg (by omega)] at this
  exact this
theorem cls_rSave (r : Int × Int) (h : 0 ≤ r.1 ∧ r.1 ≤ r.2 ∧ r.2 < 8192) : cls (rLine saveW r) = .save r := by
  have := cls_save (f := r.1.toNat) (g := r.2.toNat) (by omega) (by omega) (by omega)
  rw [Int.toNat_of_nonneg h.1, Int.toNat_of_nonneg (by omega)] at this
  exact this
theorem cls_port1 : cls port1W = .port1 := by decide
theorem cls_port2 : cls port2W = .port2 := by decide
def portsL (p q : Bool) : List (List UInt8) := (if p then [port1W] else []) ++ (if q then [port2W] else [])
theorem printL_lines (p q : Bool) (ra sa : List (Int × Int)) (h1 : natsB 2048 ra) (h2 : natsB 8192 sa) : linesOf (printL p q ra sa) = portsL p q ++ (ra.map (rLine ramW) ++ (sa.map (rLine saveW) ++ [[]])) := by
  have g1 : natsB 65536 ra := fun r hr => by have := h1 r hr; omega
  have g2 : natsB 65536 sa := fun r hr => by have := h2 r hr; omega
  have e0 : linesOf (linesP ramW ra ++ (linesP saveW sa ++ [])) = ra.map (rLine ramW) ++ (sa.map (rLine saveW) ++ [[]]) := by
    rw [lines_many ramW (by decide) _ ra g1, lines_many saveW (by decide) [] sa g2]
    rfl
  have eL : printL p q ra sa = ports1P p ++ (ports2P q ++ (linesP ramW ra ++ (linesP saveW sa ++ []))) := by simp [printL]
  have t2 : ∀ X, linesOf (ports2P q ++ X) = (if q then [port2W] else []) ++ linesOf X := fun X => by
    cases q
    · rfl
    · show linesOf ((port2W ++ [10]) ++ X) = port2W :: linesOf X
      rw [List.append_assoc]
      exact linesOf_first port2W X (by decide)
  have t1 : ∀ X, linesOf (ports1P p ++ X) = (if p then [port1W] else []) ++ linesOf X := fun X => by
    cases p
    · rfl
    · show linesOf ((port1W ++ [10]) ++ X) = port1W :: linesOf X
      rw [List.append_assoc]
      exact linesOf_first port1W X (by decide)
  rw [eL, t1, t2, e0]
  simp [portsL]
theorem map_ram (ra : List (Int × Int)) (h : natsB 2048 ra) : rams (ra.map (rLine ramW)) = ra ∧ saves (ra.map (rLine ramW)) = [] ∧ noBad (ra.map (rLine ramW)) = true ∧ anyP1 (ra.map (rLine ramW)) = false ∧ anyP2 (ra.map (rLine ramW)) = false := by
  induction ra with
  | nil => exact ⟨rfl, rfl, rfl, rfl, rfl⟩
  | cons r l ih =>
    obtain ⟨i1, i2, i3, i4, i5⟩ := ih fun x hx => h x (List.mem_cons_of_mem _ hx)
    have hc := cls_rRam r (h r (List.mem_cons_self ..))
    refine ⟨?_, ?_, ?_, ?_, ?_⟩
    · simp only [rams, List.map_cons, List.filterMap_cons, ramOf, hc] at i1 ⊢; exact congrArg (r :: ·) i1
    · simp only [saves, List.map_cons, List.filterMap_cons, saveOf, hc] at i2 ⊢; exact i2
    · simp only [noBad, List.map_cons, List.all_cons, isBad, hc] at i3 ⊢; simp [i3]
    · simp only [anyP1, List.map_cons, List.any_cons, hc] at i4 ⊢; simp [i4]
    · simp only [anyP2, List.map_cons, List.any_cons, hc] at i5 ⊢; simp [i5]
theorem map_save (sa : List (Int × Int)) (h : natsB 8192 sa) : rams (sa.map (rLine saveW)) = [] ∧ saves (sa.map (rLine saveW)) = sa ∧ noBad (sa.map (rLine saveW)) = true ∧ anyP1 (sa.map (rLine saveW)) = false ∧ anyP2 (sa.map (rLine saveW)) = false := by
  induction sa with
  | nil => exact ⟨rfl, rfl, rfl, rfl, rfl⟩
  | cons r l ih =>
    obtain ⟨i1, i2, i3, i4, i5⟩ := ih fun x hx => h x (List.mem_cons_of_mem _ hx)
    have hc := cls_rSave r (h r (List.mem_cons_self ..))
    refine ⟨?_, ?_, ?_, ?_, ?_⟩
    · simp only [rams, List.map_cons, List.filterMap_cons, ramOf, hc] at i1 ⊢; exact i1
    · simp only [saves, List.map_cons, List.filterMap_cons, saveOf, hc] at i2 ⊢; exact congrArg (r :: ·) i2
    · simp only [noBad, List.map_cons, List.all_cons, isBad, hc] at i3 ⊢; simp [i3]
    · simp only [anyP1, List.map_cons, List.any_cons, hc] at i4 ⊢; simp [i4]
    · simp only [anyP2, List.map_cons, List.any_cons, hc] at i5 ⊢; simp [i5]
/-- A printed policy's text reads as the policy. -/
theorem printL_back (p q : Bool) (ra sa : List (Int × Int)) (h1 : natsB 2048 ra) (h2 : natsB 8192 sa) :
    noBad (linesOf (printL p q ra sa)) = true ∧ anyP1 (linesOf (printL p q ra sa)) = p ∧ anyP2 (linesOf (printL p q ra sa)) = q ∧ rams (linesOf (printL p q ra sa)) = ra ∧ saves (linesOf (printL p q ra sa)) = sa := by
  obtain ⟨a1, a2, a3, a4, a5⟩ := map_ram ra h1
  obtain ⟨b1, b2, b3, b4, b5⟩ := map_save sa h2
  rw [printL_lines p q ra sa h1 h2]
  simp only [noBad_append, anyP1_append, anyP2_append, rams_append, saves_append, a1, a2, a3, a4, a5, b1, b2, b3, b4, b5]
  refine ⟨?_, ?_, ?_, ?_, ?_⟩ <;> cases p <;> cases q <;> simp [portsL, noBad, anyP1, anyP2, rams, saves, isBad, ramOf, saveOf, cls_port1, cls_port2, cls_nil]
end Go.Proofs.YtjiilcnbajcdhaaGreatDoor
