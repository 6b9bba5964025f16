/-
  Dots over one another, in plain numbers: what is shown in a column, what is seen of two dots, and a place's colour. Without any world.
-/
import Derived.Test.YtkmmmnoipgdedaaTim
import Derived.Test.YtkmmmnoipgdedaaLbl
namespace Go.Proofs.Ytkmmmnoipgdedaa
open Go.RowKit
set_option linter.unusedSimpArgs false
set_option linter.unusedVariables false

/-- Are the ground, and sprites, shown in a column; anything, anywhere? -/
def gndP (m : BitVec 8) (x : Int) : Bool := m.getLsbD 3 && (decide (8 ≤ x) || m.getLsbD 1)
def sprP (m : BitVec 8) (x : Int) : Bool := m.getLsbD 4 && (decide (8 ≤ x) || m.getLsbD 2)
def anyP (m : BitVec 8) : Bool := m.getLsbD 3 || m.getLsbD 4
/-- Is a dot seen? -/
def seenP (d : BitVec 8) : Bool := d.getLsbD 0 || d.getLsbD 1
/-- A place in the palettes. -/
def placeP (g s : BitVec 8) (b : Bool) : BitVec 8 := cond (!seenP g && !seenP s) 0#8 (cond (!seenP s || seenP g && b) (g &&& 15#8) (16#8 + (s &&& 15#8)))
def hitP (g s : BitVec 8) (x : Int) : Bool := seenP g && seenP s && !decide (x = 255)
/-- A colour. -/
def tintP (v m : BitVec 8) : BitVec 8 := cond (m.getLsbD 0) (v &&& 48#8) (v &&& 63#8)

theorem mask_bit (m : BitVec 8) (k : Nat) (hk : k < 8) (c : Int) (hc : c = w8 (BitVec.twoPow 8 k)) : (bits .and .u8 (w8 m) c != 0) = m.getLsbD k := by
  subst hc
  rw [v8_and]
  have h : ∀ k : Fin 8, ∀ v : BitVec 8, (w8 (v &&& BitVec.twoPow 8 k.1) != 0) = v.getLsbD k.1 := by decide +kernel
  exact h ⟨k, hk⟩ m
theorem mask1 (m : BitVec 8) : (bits .and .u8 (w8 m) 1 != 0) = m.getLsbD 0 := mask_bit m 0 (by decide) 1 (by decide)
theorem mask2 (m : BitVec 8) : (bits .and .u8 (w8 m) 2 != 0) = m.getLsbD 1 := mask_bit m 1 (by decide) 2 (by decide)
theorem mask4 (m : BitVec 8) : (bits .and .u8 (w8 m) 4 != 0) = m.getLsbD 2 := mask_bit m 2 (by decide) 4 (by decide)
theorem mask8 (m : BitVec 8) : (bits .and .u8 (w8 m) 8 != 0) = m.getLsbD 3 := mask_bit m 3 (by decide) 8 (by decide)
theorem mask16 (m : BitVec 8) : (bits .and .u8 (w8 m) 16 != 0) = m.getLsbD 4 := mask_bit m 4 (by decide) 16 (by decide)
theorem seen_raw (d : BitVec 8) : (bits .and .u8 (w8 d) 3 != 0) = seenP d := by
  rw [show (3 : Int) = w8 3#8 by decide, v8_and]
  have h : ∀ v : BitVec 8, (w8 (v &&& 3#8) != 0) = seenP v := by decide +kernel
  exact h d
theorem seen_mod (d : BitVec 8) : (w8 d % 4 != 0) = seenP d := by
  have h : ∀ v : BitVec 8, (w8 v % 4 != 0) = seenP v := by decide +kernel
  exact h d
theorem and15_raw (d : BitVec 8) : bits .and .u8 (w8 d) 15 = w8 (d &&& 15#8) := by rw [show (15 : Int) = w8 15#8 by decide, v8_and]
theorem and63_raw (d : BitVec 8) : bits .and .u8 (w8 d) 63 = w8 (d &&& 63#8) := by rw [show (63 : Int) = w8 63#8 by decide, v8_and]
theorem and48_raw (d : BitVec 8) : bits .and .u8 (w8 d) 48 = w8 (d &&& 48#8) := by rw [show (48 : Int) = w8 48#8 by decide, v8_and]
theorem and48_63 (d : BitVec 8) : bits .and .u8 (w8 (d &&& 63#8)) 48 = w8 (d &&& 48#8) := by
  rw [and48_raw]
  have h : ∀ v : BitVec 8, v &&& 63#8 &&& 48#8 = v &&& 48#8 := by decide +kernel
  rw [h]
theorem mod16_raw (d : BitVec 8) : w8 d % 16 = w8 (d &&& 15#8) := by
  have h : ∀ v : BitVec 8, w8 v % 16 = w8 (v &&& 15#8) := by decide +kernel
  exact h d
theorem add16_raw (d : BitVec 8) : 16 + w8 (d &&& 15#8) = w8 (16#8 + (d &&& 15#8)) := by
  have h : ∀ v : BitVec 8, 16 + w8 (v &&& 15#8) = w8 (16#8 + (v &&& 15#8)) := by decide +kernel
  exact h d
theorem mod64_raw (d : BitVec 8) : w8 d % 64 = w8 (d &&& 63#8) := by
  have h : ∀ v : BitVec 8, w8 v % 64 = w8 (v &&& 63#8) := by decide +kernel
  exact h d
theorem grey_raw (d : BitVec 8) : w8 (d &&& 63#8) / 16 * 16 = w8 (d &&& 48#8) := by
  have h : ∀ v : BitVec 8, w8 (v &&& 63#8) / 16 * 16 = w8 (v &&& 48#8) := by decide +kernel
  exact h d
theorem par_raw (m : BitVec 8) : (w8 m % 2 == 1) = m.getLsbD 0 := by
  have h : ∀ v : BitVec 8, (w8 v % 2 == 1) = v.getLsbD 0 := by decide +kernel
  exact h m

/-- What follows of places, by all dots. -/
def placesB (g s : BitVec 8) (b : Bool) : Bool :=
  !(decide (31 < w8 (placeP g s b)) || ((w8 (placeP g s b) == 0) != (!seenP g && !seenP s)) || decide (0 < w8 (placeP g s b)) && (w8 (placeP g s b &&& 3#8) == 0))
  && (((w8 (placeP g s b) != w8 (placeP g s (!b))) == (seenP g && seenP s)))
  && (seenP s || decide (w8 (placeP g s b) < 16)) && (seenP g || (w8 (placeP g s b) == 0) || decide (15 < w8 (placeP g s b)))
  && (w8 (placeP g (s &&& 12#8) b) == w8 (placeP g 0#8 false))
end Go.Proofs.Ytkmmmnoipgdedaa
