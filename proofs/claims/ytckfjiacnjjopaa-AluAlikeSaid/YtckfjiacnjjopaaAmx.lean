/-
  Maths of reckoning, third part: all that is told of flags, two bytes and bits; that of what is alike it is alike; that of what is low it is low, with the same values. No condition on the program.
-/
import Derived.Test.YtckfjiacnjjopaaAmu
namespace Go.Proofs.Ytckfjiacnjjopaa

abbrev Res := Int × Bool × Int × Int
/-- Thirteen results: a value and its label, flags and theirs. -/
def toldL (p s a : Int) (x : Bool) (m : Int) (y : Bool) (b : Int) (k : Bool) : List Res :=
  [(adcV a m (cI p), x || (y || hasV s 1), adcP p a m (cI p), adcS s (x || (y || hasV s 1))),
   (adcV a (255 - m) (cI p), x || (y || hasV s 1), adcP p a (255 - m) (cI p), adcS s (x || (y || hasV s 1))),
   (lessV a m, x || y, lessP p a m, lessS s (x || y)),
   (leftV a 0, x, leftP p a 0, rollS s x false),
   (rightV a 0, x, rightP p a 0, rollS s x false),
   (leftV a (cI p), x || hasV s 1, leftP p a (cI p), rollS s x (hasV s 1)),
   (rightV a (cI p), x || hasV s 1, rightP p a (cI p), rollS s x (hasV s 1)),
   (arrV a m (cI p), (x || y) || hasV s 1, arrP p a m (cI p), arrS s (x || y) (hasV s 1)),
   (oneI (hasV p b), hasV s b, pbV p b (a != 0), pbV s b x),
   (pushV p k, hasV s 207, clr a, pullS x),
   (0, false, lessP p a m, lessS s (x || y)),
   (0, false, bitP p a m, bitS s x y),
   (0, false, nzP p a, nzS s x)]

/-- Flags that are not secret are the same. -/
def FA (p q s : Int) : Prop := ∀ i, s.toNat.testBit i = false → (207 : Nat).testBit i = true → p.toNat.testBit i = q.toNat.testBit i
section
variable {p q s a a' m m' b c c' v v' : Int} {x y t k : Bool}
theorem fa_put (h : FA p q s) (z z' : Bool) (hz : t = false → z = z') : FA (pbV p b z) (pbV q b z') (pbV s b t) := by
  intro i hi h2
  rw [pbV_nat, put_bit, h2] at hi
  rw [pbV_nat, pbV_nat, put_bit, put_bit, h2]
  by_cases hb : b.toNat.testBit i = true
  · rw [if_pos hb] at hi ⊢
    rw [if_pos hb, hz (by simpa using hi)]
  · rw [if_neg hb] at hi ⊢
    rw [if_neg hb, h i (by simpa using hi) h2]
theorem fa_nz (h : FA p q s) (hv : t = false → v = v') : FA (nzP p v) (nzP q v') (nzS s t) :=
  fa_put (fa_put h _ _ fun e => by rw [hv e]) _ _ fun e => by rw [hv e]
theorem fa_has (h : FA p q s) (hs : hasV s b = false) : hasV p b = hasV q b := by
  unfold hasV at *
  have e : p.toNat &&& (b.toNat &&& 207) = q.toNat &&& (b.toNat &&& 207) := by
    apply Nat.eq_of_testBit_eq
    intro i
    have hs : s.toNat &&& (b.toNat &&& 207) = 0 := by simpa using hs
    have h1 : (s.toNat.testBit i && (b.toNat.testBit i && (207 : Nat).testBit i)) = false := by rw [← Nat.testBit_and, ← Nat.testBit_and, hs, Nat.zero_testBit]
    simp only [Nat.testBit_and]
    cases h2 : (b.toNat.testBit i && (207 : Nat).testBit i)
    · rw [Bool.and_false, Bool.and_false]
    · rw [h2, Bool.and_true] at h1
      rw [Bool.and_eq_true] at h2
      rw [h i h1 h2.2]
  rw [e]
theorem fa_less (h : FA p q s) (hv : t = false → a = a' ∧ m = m') : FA (lessP p a m) (lessP q a' m') (lessS s t) :=
  fa_nz (fa_put h _ _ fun e => by rw [(hv e).1, (hv e).2]) fun e => by rw [(hv e).1, (hv e).2]
theorem fa_adc (h : FA p q s) (hv : t = false → a = a' ∧ m = m' ∧ c = c') : FA (adcP p a m c) (adcP q a' m' c') (adcS s t) := by
  refine fa_nz (fa_put (fa_put h _ _ fun e => ?_) _ _ fun e => ?_) fun e => ?_ <;> (obtain ⟨h1, h2, h3⟩ := hv e; rw [h1, h2, h3])
theorem fa_left (h : FA p q s) (hx : x = false → a = a') (hv : (x || t) = false → c = c') : FA (leftP p a c) (leftP q a' c') (rollS s x t) :=
  fa_nz (fa_put h _ _ fun e => by rw [hx e]) fun e => by rw [hv e, hx (by simp at e; exact e.1)]
theorem fa_right (h : FA p q s) (hx : x = false → a = a') (hv : (x || t) = false → c = c') : FA (rightP p a c) (rightP q a' c') (rollS s x t) :=
  fa_nz (fa_put h _ _ fun e => by rw [hx e]) fun e => by rw [hv e, hx (by simp at e; exact e.1)]
theorem fa_arr (h : FA p q s) (hx : x = false → bothV a m = bothV a' m') (hv : (x || t) = false → c = c') : FA (arrP p a m c) (arrP q a' m' c') (arrS s x t) := by
  have e : (x || t) = false → arrV a m c = arrV a' m' c' := fun e => by unfold arrV; rw [hv e, hx (by simp at e; exact e.1)]
  exact fa_put (fa_put (fa_right h hx hv) _ _ fun z => by rw [e z]) _ _ fun z => by rw [e z]
theorem fa_bit (h : FA p q s) (hx : x = false → a = a') (hy : y = false → m = m') : FA (bitP p a m) (bitP q a' m') (bitS s x y) := by
  refine fa_put (fa_put (fa_put h _ _ fun e => ?_) _ _ fun e => ?_) _ _ fun e => ?_
  · rw [hx (by simp at e; exact e.1), hy (by simp at e; exact e.2)]
  · rw [hy e]
  · rw [hy e]
theorem fa_clr (h : FA p q s) (p0 : 0 ≤ p) (p1 : p < 256) (q0 : 0 ≤ q) (q1 : q < 256) (hs : hasV s 207 = false) : clr p = clr q := by
  refine put_ext (clr_le _ p0 p1).1 (clr_le _ q0 q1).1 fun i => ?_
  rw [clr_nat p p0 p1, clr_nat q q0 q1, Nat.testBit_and, Nat.testBit_and]
  by_cases h2 : (207 : Nat).testBit i = true
  · have hs : s.toNat &&& (207 &&& 207) = 0 := by unfold hasV at hs; simpa using hs
    have h1 : (s.toNat.testBit i && (207 : Nat).testBit i) = false := by rw [← Nat.testBit_and, show (207 : Nat) = 207 &&& 207 from rfl, hs, Nat.zero_testBit]
    rw [h2, Bool.and_true] at h1
    rw [h i h1 h2]
  · rw [Bool.not_eq_true] at h2
    rw [h2]; simp
theorem fa_pull (hx : x = false → a = a') : FA (clr a) (clr a') (pullS x) := by
  cases x
  · rw [hx rfl]; exact fun i _ _ => rfl
  · intro i hi h2
    exact absurd (hi.symm.trans h2) (by decide)

/-- Two results are alike. -/
def RA (r z : Res) : Prop := r.2.1 = z.2.1 ∧ (r.2.1 = false → r.1 = z.1) ∧ r.2.2.2 = z.2.2.2 ∧ FA r.2.2.1 z.2.2.1 r.2.2.2
def dR : Res := (0, false, 0, 0)
theorem told_alike (hF : FA p q s) (p0 : 0 ≤ p) (p1 : p < 256) (q0 : 0 ≤ q) (q1 : q < 256) (hx : x = false → a = a') (hy : y = false → m = m') (i : Nat) (hi : i < 13) :
    RA ((toldL p s a x m y b k).getD i dR) ((toldL q s a' x m' y b k).getD i dR) := by
  have hc : hasV s 1 = false → cI p = cI q := fun e => by unfold cI; rw [fa_has hF e]
  have h3 : (x || (y || hasV s 1)) = false → a = a' ∧ m = m' ∧ cI p = cI q := fun e => by
    simp only [Bool.or_eq_false_iff] at e
    exact ⟨hx e.1, hy e.2.1, hc e.2.2⟩
  have h2 : (x || y) = false → a = a' ∧ m = m' := fun e => by
    simp only [Bool.or_eq_false_iff] at e
    exact ⟨hx e.1, hy e.2⟩
  have h4 : (x || hasV s 1) = false → a = a' ∧ cI p = cI q := fun e => by
    simp only [Bool.or_eq_false_iff] at e
    exact ⟨hx e.1, hc e.2⟩
  have h5 : (x || y || hasV s 1) = false → a = a' ∧ m = m' ∧ cI p = cI q := fun e => by
    simp only [Bool.or_eq_false_iff] at e
    exact ⟨hx e.1.1, hy e.1.2, hc e.2⟩
  match i, hi with
  | 0, _ => exact ⟨rfl, fun e => by show adcV a m _ = adcV a' m' _; obtain ⟨e1, e2, e3⟩ := h3 e; rw [e1, e2, e3], rfl, fa_adc hF h3⟩
  | 1, _ => exact ⟨rfl, fun e => by show adcV a (255 - m) _ = adcV a' (255 - m') _; obtain ⟨e1, e2, e3⟩ := h3 e; rw [e1, e2, e3], rfl, fa_adc hF fun e => by obtain ⟨e1, e2, e3⟩ := h3 e; exact ⟨e1, by rw [e2], e3⟩⟩
  | 2, _ => exact ⟨rfl, fun e => by show lessV a m = lessV a' m'; obtain ⟨e1, e2⟩ := h2 e; rw [e1, e2], rfl, fa_less hF h2⟩
  | 3, _ => exact ⟨rfl, fun e => by show leftV a 0 = leftV a' 0; rw [hx e], rfl, fa_left hF hx fun _ => rfl⟩
  | 4, _ => exact ⟨rfl, fun e => by show rightV a 0 = rightV a' 0; rw [hx e], rfl, fa_right hF hx fun _ => rfl⟩
  | 5, _ => exact ⟨rfl, fun e => by show leftV a _ = leftV a' _; obtain ⟨e1, e2⟩ := h4 e; rw [e1, e2], rfl, fa_left hF hx fun e => (h4 e).2⟩
  | 6, _ => exact ⟨rfl, fun e => by show rightV a _ = rightV a' _; obtain ⟨e1, e2⟩ := h4 e; rw [e1, e2], rfl, fa_right hF hx fun e => (h4 e).2⟩
  | 7, _ => exact ⟨rfl, fun e => by show arrV a m _ = arrV a' m' _; obtain ⟨e1, e2, e3⟩ := h5 e; rw [e1, e2, e3], rfl, fa_arr hF (fun e => by obtain ⟨e1, e2⟩ := h2 e; rw [e1, e2]) fun e => (h5 e).2.2⟩
  | 8, _ => exact ⟨rfl, fun e => by show oneI (hasV p b) = oneI (hasV q b); rw [fa_has hF e], rfl, fa_put hF _ _ fun e => by rw [hx e]⟩
  | 9, _ => exact ⟨rfl, fun e => by show pushV p k = pushV q k; unfold pushV; rw [fa_clr hF p0 p1 q0 q1 e], rfl, fa_pull hx⟩
  | 10, _ => exact ⟨rfl, fun _ => rfl, rfl, fa_less hF h2⟩
  | 11, _ => exact ⟨rfl, fun _ => rfl, rfl, fa_bit hF hx hy⟩
  | 12, _ => exact ⟨rfl, fun _ => rfl, rfl, fa_nz hF hx⟩
theorem has_none (b : Int) : hasV 0 b = false := by unfold hasV; rw [show (0 : Int).toNat = 0 from rfl, Nat.zero_and]; rfl
/-- Labels change no value, and of what is low nothing is secret. -/
theorem told_erased (i : Nat) (hi : i < 13) : ((toldL p s a x m y b k).getD i dR).1 = ((toldL p 0 a false m false b k).getD i dR).1 ∧ ((toldL p s a x m y b k).getD i dR).2.2.1 = ((toldL p 0 a false m false b k).getD i dR).2.2.1 ∧
    ((toldL p 0 a false m false b k).getD i dR).2.1 = false ∧ ((toldL p 0 a false m false b k).getD i dR).2.2.2 = 0 := by
  match i, hi with
  | 0, _ | 1, _ | 2, _ | 3, _ | 4, _ | 5, _ | 6, _ | 7, _ | 8, _ | 9, _ | 10, _ | 11, _ | 12, _ =>
    refine ⟨rfl, rfl, ?_, ?_⟩ <;> simp [toldL, adcS, lessS, rollS, arrS, bitS, nzS, pullS, has_none, put_none]
/-- What the law asks of flags that are alike. -/
theorem fa_and (h : FA p q s) (p0 : 0 ≤ p) (p1 : p < 256) (q0 : 0 ≤ q) (q1 : q < 256) (s0 : 0 ≤ s) (s1 : s < 256) (hp : clr p = p) (hq : clr q = q) : bits .andNot .u8 p s = bits .andNot .u8 q s := by
  rw [u8_andNot p s p0 p1 s0 s1, u8_andNot q s q0 q1 s0 s1]
  congr 1
  apply Nat.eq_of_testBit_eq
  intro i
  have e1 := clr_nat p p0 p1
  have e2 := clr_nat q q0 q1
  rw [hp] at e1
  rw [hq] at e2
  rw [Nat.testBit_and, Nat.testBit_and, bit_not s.toNat i (by omega)]
  by_cases h2 : (207 : Nat).testBit i = true
  · by_cases hs : s.toNat.testBit i = true
    · rw [hs]; simp
    · rw [Bool.not_eq_true] at hs
      rw [h i hs h2]
  · rw [Bool.not_eq_true] at h2
    rw [e1, e2, Nat.testBit_and, Nat.testBit_and, h2]; simp
/-- The law's other values of what is secret. -/
theorem fa_other (r : Int) (p0 : 0 ≤ p) (p1 : p < 256) (s0 : 0 ≤ s) (s1 : s < 256) (r0 : 0 ≤ r) (r1 : r < 256) :
    0 ≤ bits .or .u8 (bits .andNot .u8 p s) (bits .and .u8 r s) ∧ bits .or .u8 (bits .andNot .u8 p s) (bits .and .u8 r s) < 256 ∧ FA p (bits .or .u8 (bits .andNot .u8 p s) (bits .and .u8 r s)) s := by
  have l1 : p.toNat &&& (255 - s.toNat) < 2 ^ 8 := Nat.lt_of_le_of_lt Nat.and_le_left (by omega)
  have l2 : r.toNat &&& s.toNat < 2 ^ 8 := Nat.lt_of_le_of_lt Nat.and_le_left (by omega)
  have l3 := Nat.or_lt_two_pow l1 l2
  rw [u8_andNot p s p0 p1 s0 s1, u8_and r s r0 r1 s0 s1, u8_or _ _ (by omega) (by omega) (by omega) (by omega), Int.toNat_natCast, Int.toNat_natCast]
  refine ⟨by omega, by omega, fun i hi h2 => ?_⟩
  have h8 : decide (i < 8) = true := by rw [bit_207] at h2; simp at h2; simp [h2.1]
  rw [Int.toNat_natCast, Nat.testBit_or, Nat.testBit_and, Nat.testBit_and, bit_not s.toNat i (by omega), hi, h8]
  simp
end
end Go.Proofs.Ytckfjiacnjjopaa
