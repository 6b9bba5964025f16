/-
  Several texts in one: what is read and written by the functions on the way to the statements. Conditions stand in each theorem.
-/
import Derived.Test.YtcgnnbgknaamdaaGreatDoorX02
namespace Go.Proofs.YtcgnnbgknaamdaaGreatDoor

/-- Flags that are not secret are the same. -/
def FA (p q s : Int) : Prop := ∀ i, s.toNat.testBit i = false → (207 : Nat).testBit i = true → p.toNat.testBit i = q.toNat.testBit i
section
variable {p q s a a' m m' b c c' v v' : Int} {x y t k : Bool}
theorem fa_put (h : FA p q s) (z z' : Bool) (hz : t = false → z = z') : FA (pbV p b z) (pbV q b z') (pbV s b t) := by
  intro i hi h2
  rw [pbV_nat, put_bit, h2] at hi
  rw [pbV_nat, pbV_nat, put_bit, put_bit, h2]
  by_cases hb : b.toNat.testBit i = true
  · rw [if_pos hb] at hi ⊢
    rw [if_pos hb, hz (by simpa using hi)]
  · rw [if_neg hb] at hi ⊢
    rw [if_neg hb, h i (by simpa using hi) h2]
theorem fa_nz (h : FA p q s) (hv : t = false → v = v') : FA (nzP p v) (nzP q v') (nzS s t) :=
  fa_put (fa_put h _ _ fun e => by rw [hv e]) _ _ fun e => by rw [hv e]
theorem fa_has (h : FA p q s) (hs : hasV s b = false) : hasV p b = hasV q b := by
  unfold hasV at *
  have e : p.toNat &&& (b.toNat &&& 207) = q.toNat &&& (b.toNat &&& 207) := by
    apply Nat.eq_of_testBit_eq
    intro i
    have hs : s.toNat &&& (b.toNat &&& 207) = 0 := by simpa using hs
    have h1 : (s.toNat.testBit i && (b.toNat.testBit i && (207 : Nat).testBit i)) = false := by rw [← Nat.testBit_and, ← Nat.testBit_and, hs, Nat.zero_testBit]
    simp only [Nat.testBit_and]
    cases h2 : (b.toNat.testBit i && (207 : Nat).testBit i)
    · rw [Bool.and_false, Bool.and_false]
    · rw [h2, Bool.and_true] at h1
      rw [Bool.and_eq_true] at h2
      rw [h i h1 h2.2]
  rw [e]
theorem fa_less (h : FA p q s) (hv : t = false → a = a' ∧ m = m') : FA (lessP p a m) (lessP q a' m') (lessS s t) :=
  fa_nz (fa_put h _ _ fun e => by rw [(hv e).1, (hv e).2]) fun e => by rw [(hv e).1, (hv e).2]
theorem fa_adc (h : FA p q s) (hv : t = false → a = a' ∧ m = m' ∧ c = c') : FA (adcP p a m c) (adcP q a' m' c') (adcS s t) := by
  refine fa_nz (fa_put (fa_put h _ _ fun e => ?_) _ _ fun e => ?_) fun e => ?_ <;> (obtain ⟨h1, h2, h3⟩ := hv e; rw [h1, h2, h3])
theorem fa_left (h : FA p q s) (hx : x = false → a = a') (hv : (x || t) = false → c = c') : FA (leftP p a c) (leftP q a' c') (rollS s x t) :=
  fa_nz (fa_put h _ _ fun e => by rw [hx e]) fun e => by rw [hv e, hx (by simp at e; exact e.1)]
theorem fa_right (h : FA p q s) (hx : x = false → a = a') (hv : (x || t) = false → c = c') : FA (rightP p a c) (rightP q a' c') (rollS s x t) :=
  fa_nz (fa_put h _ _ fun e => by rw [hx e]) fun e => by rw [hv e, hx (by simp at e; exact e.1)]
theorem fa_arr (h : FA p q s) (hx : x = false → bothV a m = bothV a' m') (hv : (x || t) = false → c = c') : FA (arrP p a m c) (arrP q a' m' c') (arrS s x t) := by
  have e : (x || t) = false → arrV a m c = arrV a' m' c' := fun e => by unfold arrV; rw [hv e, hx (by simp at e; exact e.1)]
  exact fa_put (fa_put (fa_right h hx hv) _ _ fun z => by rw [e z]) _ _ fun z => by rw [e z]
theorem fa_bit (h : FA p q s) (hx : x = false → a = a') (hy : y = false → m = m') : FA (bitP p a m) (bitP q a' m') (bitS s x y) := by
  refine fa_put (fa_put (fa_put h _ _ fun e => ?_) _ _ fun e => ?_) _ _ fun e => ?_
  · rw [hx (by simp at e; exact e.1), hy (by simp at e; exact e.2)]
  · rw [hy e]
  · rw [hy e]
theorem fa_clr (h : FA p q s) (p0 : 0 ≤ p) (p1 : p < 256) (q0 : 0 ≤ q) (q1 : q < 256) (hs : hasV s 207 = false) : clr p = clr q := by
  refine put_ext (clr_le _ p0 p1).1 (clr_le _ q0 q1).1 fun i => ?_
  rw [clr_nat p p0 p1, clr_nat q q0 q1, Nat.testBit_and, Nat.testBit_and]
  by_cases h2 : (207 : Nat).testBit i = true
  · have hs : s.toNat &&& (207 &&& 207) = 0 := by unfold hasV at hs; simpa using hs
    have h1 : (s.toNat.testBit i && (207 : Nat).testBit i) = false := by rw [← Nat.testBit_and, show (207 : Nat) = 207 &&& 207 from rfl, hs, Nat.zero_testBit]
    rw [h2, Bool.and_true] at h1
    rw [h i h1 h2]
  · rw [Bool.not_eq_true] at h2
    rw [h2]; simp
theorem fa_pull (hx : x = false → a = a') : FA (clr a) (clr a') (pullS x) := by
  cases x
  · rw [hx rfl]; exact fun i _ _ => rfl
  · intro i hi h2
    exact absurd (hi.symm.trans h2) (by decide)

end
end Go.Proofs.YtcgnnbgknaamdaaGreatDoor
