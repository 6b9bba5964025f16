/-
  The walk of PixelPlaces. Over this seat's translation; no condition. (Written by gen_px.py.)
-/
import Derived.Test.YtkmmmnoipgdedaaPxw
import Derived.Test.YtkmmmnoipgdedaaPxo
namespace Go.Proofs.Ytkmmmnoipgdedaa
open Go.RowKit Go.Sort
set_option linter.unusedSimpArgs false
set_option linter.unusedVariables false
set_option maxRecDepth 20000

theorem v8_an (x y : BitVec 8) : bits .andNot .u8 (w8 x) (w8 y) = w8 (x &&& ~~~y) := by
  show IntKind.u8.wrap ((BitVec.ofInt 8 (w8 x) &&& ~~~(BitVec.ofInt 8 (w8 y))).toNat : Nat) = _
  rw [ofInt_w8, ofInt_w8, wr8]
/-- What is asked, by its numbers. -/
def pqV (G S M I x : Int) (b l : Bool) : Array Value := #[.int .u8 G, .int .u8 S, .int .u8 M, .int .u8 I, .int .i64 x, .bool b, .bool l]
theorem lo_seen (g : BitVec 8) (h : seenP g = true) : 0 < w8 (g &&& 15#8) ∧ w8 (g &&& 15#8) < 16 ∧ bits .and .u8 (w8 (g &&& 15#8)) 3 ≠ 0 := by
  rw [show (3 : Int) = w8 3#8 by decide, v8_and]
  have k : ∀ g : BitVec 8, seenP g = true → 0 < w8 (g &&& 15#8) ∧ w8 (g &&& 15#8) < 16 ∧ w8 (g &&& 15#8 &&& 3#8) ≠ 0 := by decide +kernel
  exact k g h
theorem hi_seen (g : BitVec 8) (h : seenP g = true) : 15 < w8 (16#8 + (g &&& 15#8)) ∧ w8 (16#8 + (g &&& 15#8)) < 32 ∧ bits .and .u8 (w8 (16#8 + (g &&& 15#8))) 3 ≠ 0 := by
  rw [show (3 : Int) = w8 3#8 by decide, v8_and]
  have k : ∀ g : BitVec 8, seenP g = true → 15 < w8 (16#8 + (g &&& 15#8)) ∧ w8 (16#8 + (g &&& 15#8)) < 32 ∧ w8 ((16#8 + (g &&& 15#8)) &&& 3#8) ≠ 0 := by decide +kernel
  exact k g h
theorem seen_off (s : BitVec 8) : seenP (s &&& 12#8) = false := by
  have k : ∀ s : BitVec 8, seenP (s &&& 12#8) = false := by decide +kernel
  exact k s
theorem place_off (g s : BitVec 8) (b : Bool) : placeP g (s &&& 12#8) b = placeP g 0#8 false := by
  unfold placeP
  rw [seen_off, show seenP 0#8 = false by decide]
  cases seenP g <;> cases b <;> rfl
theorem seen_gt (g : BitVec 8) : decide (0 < bits .and .u8 (w8 g) 3) = seenP g := by
  rw [← seen_raw, show (3 : Int) = w8 3#8 by decide, v8_and]
  have := w8_lt (g &&& 3#8)
  by_cases h : w8 (g &&& 3#8) = 0
  · simp [h]
  · have : 0 < w8 (g &&& 3#8) := by omega
    simp [this, h]
theorem place_all (g s : BitVec 8) (b : Bool) : 0 ≤ w8 (placeP g s b) ∧ ¬ 31 < w8 (placeP g s b)
  ∧ (seenP g = false → seenP s = false → w8 (placeP g s b) = 0)
  ∧ (seenP g = true → seenP s = false → 0 < w8 (placeP g s b) ∧ w8 (placeP g s b) < 16 ∧ bits .and .u8 (w8 (placeP g s b)) 3 ≠ 0)
  ∧ (seenP g = false → seenP s = true → 15 < w8 (placeP g s b) ∧ bits .and .u8 (w8 (placeP g s b)) 3 ≠ 0)
  ∧ (seenP g = true → seenP s = true → 0 < w8 (placeP g s b) ∧ bits .and .u8 (w8 (placeP g s b)) 3 ≠ 0 ∧ w8 (placeP g s b) ≠ w8 (placeP g s (!b)))
  ∧ ((seenP g && seenP s) = false → w8 (placeP g s (!b)) = w8 (placeP g s b)) := by
  have l1 := lo_seen g
  have l2 := hi_seen s
  rw [placeO_at, placeO_at]
  generalize w8 (g &&& 15#8) = u at *
  generalize w8 (16#8 + (s &&& 15#8)) = y at *
  generalize seenP g = p at *
  generalize seenP s = r at *
  cases p <;> cases r <;> cases b <;> simp [placeO] at * <;> (try omega) <;> (try (refine ⟨?_, ?_⟩ <;> omega)) <;> (try (refine ⟨?_, ?_, ?_⟩ <;> first | omega | exact l1.2.2 | exact l2.2.2)) <;> simp_all <;> omega
end Go.Proofs.Ytkmmmnoipgdedaa
