/-
  Maths of reckoning: flags as numbers of eight bits, of which two are none; what is put over them, and asked of them; sums, differences, shifts. No condition on the program.
-/
import Derived.Test.YtckfjiacnjjopaaLbn
import Derived.Test.YtckfjiacnjjopaaHbt
namespace Go.Proofs.Ytckfjiacnjjopaa

/-! ### flags -/
/-- Without bits 4 and 5. -/
def clr (n : Int) : Int := n % 16 + n / 64 * 64
/-- Bits b are set, or not; 4 and 5 are none. -/
def pbN (n b : Nat) (is : Bool) : Nat := if is then (n &&& 207 &&& (255 - (b &&& 207))) ||| (b &&& 207) else n &&& 207 &&& (255 - (b &&& 207))
def pbV (n b : Int) (is : Bool) : Int := (pbN n.toNat b.toNat is : Nat)
/-- Is one of bits b set? -/
def hasV (n b : Int) : Bool := n.toNat &&& (b.toNat &&& 207) != 0
/-- A bit, as a number. -/
def oneI (b : Bool) : Int := if b then 1 else 0

theorem bit_not (x i : Nat) (h : x < 256) : (255 - x).testBit i = (decide (i < 8) && !x.testBit i) := by
  have := Nat.testBit_two_pow_sub_succ (x := x) (n := 8) h i
  simpa [Nat.sub_sub, Nat.add_comm] using this
theorem bit_207 (i : Nat) : (207 : Nat).testBit i = (decide (i < 8) && !(i == 4 || i == 5)) := by
  by_cases h : i < 8
  · have : ∀ i : Fin 8, (207 : Nat).testBit i.val = (decide (i.val < 8) && !(i.val == 4 || i.val == 5)) := by decide
    exact this ⟨i, h⟩
  · rw [Nat.testBit_lt_two_pow (x := 207) (Nat.lt_of_lt_of_le (show 207 < 2 ^ 8 by decide) (Nat.pow_le_pow_right (by omega) (by omega)))]
    simp [h]
theorem put_bit (n b i : Nat) (is : Bool) : (pbN n b is).testBit i = ((207 : Nat).testBit i && if b.testBit i then is else n.testBit i) := by
  have hb : b &&& 207 < 256 := Nat.lt_of_le_of_lt Nat.and_le_right (by decide)
  unfold pbN
  cases is
  · simp only [Bool.false_eq_true, if_false]
    rw [Nat.testBit_and, Nat.testBit_and, bit_not _ _ hb, Nat.testBit_and, bit_207]
    cases decide (i < 8) <;> cases n.testBit i <;> cases b.testBit i <;> cases (i == 4 || i == 5) <;> rfl
  · simp only [if_true]
    rw [Nat.testBit_or, Nat.testBit_and, Nat.testBit_and, bit_not _ _ hb, Nat.testBit_and, bit_207]
    cases decide (i < 8) <;> cases n.testBit i <;> cases b.testBit i <;> cases (i == 4 || i == 5) <;> rfl
theorem put_lt (n b : Nat) (is : Bool) : pbN n b is < 256 := by
  have h1 : n &&& 207 &&& (255 - (b &&& 207)) < 2 ^ 8 := Nat.lt_of_le_of_lt Nat.and_le_left (Nat.lt_of_le_of_lt Nat.and_le_right (by decide))
  have h2 : b &&& 207 < 2 ^ 8 := Nat.lt_of_le_of_lt Nat.and_le_right (by decide)
  unfold pbN
  split
  · exact Nat.or_lt_two_pow h1 h2
  · exact h1
theorem pbV_le (n b : Int) (is : Bool) : 0 ≤ pbV n b is ∧ pbV n b is < 256 := by
  have := put_lt n.toNat b.toNat is
  unfold pbV
  omega
theorem pbV_nat (n b : Int) (is : Bool) : (pbV n b is).toNat = pbN n.toNat b.toNat is := by unfold pbV; rw [Int.toNat_natCast]
theorem hand207 (x : Int) (h0 : 0 ≤ x) (h1 : x < 256) : bits .and .u8 x 207 = clr x := byte_all (p := fun x => bits .and .u8 x 207 = x % 16 + x / 64 * 64) (by decide +kernel) x h0 h1
theorem clr_le (x : Int) (h0 : 0 ≤ x) (h1 : x < 256) : 0 ≤ clr x ∧ clr x < 256 := by unfold clr; omega
theorem clr_clr (x : Int) : clr (clr x) = clr x := by unfold clr; omega
theorem clr_nat (x : Int) (h0 : 0 ≤ x) (h1 : x < 256) : (clr x).toNat = x.toNat &&& 207 := by
  rw [← hand207 x h0 h1, u8_and x 207 h0 h1 (by decide) (by decide)]
  rfl
theorem int_eq {a b : Int} (h0 : 0 ≤ a) (g0 : 0 ≤ b) (h : a.toNat = b.toNat) : a = b := by omega
theorem put_ext {a b : Int} (h0 : 0 ≤ a) (g0 : 0 ≤ b) (h : ∀ i, a.toNat.testBit i = b.toNat.testBit i) : a = b := int_eq h0 g0 (Nat.eq_of_testBit_eq h)
theorem clr_put (n b : Int) (is : Bool) : clr (pbV n b is) = pbV n b is := by
  obtain ⟨h0, h1⟩ := pbV_le n b is
  refine put_ext (clr_le _ h0 h1).1 h0 fun i => ?_
  rw [clr_nat _ h0 h1, pbV_nat, Nat.testBit_and, put_bit]
  cases (207 : Nat).testBit i <;> simp
theorem put_clr (n b : Int) (is : Bool) (h0 : 0 ≤ n) (h1 : n < 256) : pbV (clr n) b is = pbV n b is := by
  refine put_ext (pbV_le _ _ _).1 (pbV_le _ _ _).1 fun i => ?_
  rw [pbV_nat, pbV_nat, put_bit, put_bit, clr_nat n h0 h1, Nat.testBit_and]
  cases (207 : Nat).testBit i <;> simp
/-- Bits that are not the same ones may be put in any order. -/
theorem put_comm (n a b : Int) (x y : Bool) (h : a.toNat &&& b.toNat = 0) : pbV (pbV n a x) b y = pbV (pbV n b y) a x := by
  refine put_ext (pbV_le _ _ _).1 (pbV_le _ _ _).1 fun i => ?_
  rw [pbV_nat, pbV_nat, put_bit, put_bit, pbV_nat, pbV_nat, put_bit, put_bit]
  have hb : (a.toNat.testBit i && b.toNat.testBit i) = false := by rw [← Nat.testBit_and, h, Nat.zero_testBit]
  revert hb
  cases (207 : Nat).testBit i <;> cases a.toNat.testBit i <;> cases b.toNat.testBit i <;> simp
/-- The program's way: bits are taken away, then set. -/
theorem put_no (n b : Int) (h0 : 0 ≤ n) (h1 : n < 256) (hn : clr n = n) (g0 : 0 ≤ b) (g1 : b < 256) : bits .andNot .u8 n (bits .and .u8 b 207) = pbV n b false := by
  have hm := u8_and b 207 g0 g1 (by decide) (by decide)
  have hlt : b.toNat &&& 207 < 256 := Nat.lt_of_le_of_lt Nat.and_le_right (by decide)
  rw [hm, show (207 : Int).toNat = 207 from rfl, u8_andNot n _ h0 h1 (by omega) (by omega), Int.toNat_natCast]
  unfold pbV pbN
  have e := clr_nat n h0 h1
  rw [hn] at e
  rw [if_neg (by decide), ← e]
theorem put_yes (n b : Int) (g0 : 0 ≤ b) (g1 : b < 256) : bits .or .u8 (pbV n b false) (bits .and .u8 b 207) = pbV n b true := by
  have hm := u8_and b 207 g0 g1 (by decide) (by decide)
  have hlt : b.toNat &&& 207 < 256 := Nat.lt_of_le_of_lt Nat.and_le_right (by decide)
  obtain ⟨q0, q1⟩ := pbV_le n b false
  rw [hm, show (207 : Int).toNat = 207 from rfl, u8_or _ _ q0 q1 (by omega) (by omega), Int.toNat_natCast, pbV_nat]
  unfold pbV pbN
  rw [if_neg (by decide), if_pos rfl]
theorem put_none (b : Int) : pbV 0 b false = 0 := by
  refine put_ext (pbV_le _ _ _).1 (by decide) fun i => ?_
  rw [pbV_nat, put_bit]
  simp
theorem put_all (x : Bool) : pbV 0 207 x = if x then 207 else 0 := by cases x <;> decide
theorem pull_p (v : Int) (h0 : 0 ≤ v) (h1 : v < 256) : pbV (pbV 0 207 false) v true = clr v := byte_all (p := fun v => pbV (pbV 0 207 false) v true = clr v) (by decide +kernel) v h0 h1
theorem pull_s (v : Int) (x : Bool) (h0 : 0 ≤ v) (h1 : v < 256) : pbV (pbV 0 207 x) v x = if x then 207 else 0 := by
  cases x
  · rw [put_none, put_none]; rfl
  · exact byte_all (p := fun v => pbV (pbV 0 207 true) v true = 207) (by decide +kernel) v h0 h1
theorem push_v (v : Int) (k : Bool) (h0 : 0 ≤ v) (h1 : v < 256) : (if k then bits .or .u8 (bits .or .u8 (clr v) 32) 16 else bits .or .u8 (clr v) 32) = clr v + 32 + if k then 16 else 0 := by
  cases k
  · exact byte_all (p := fun v => bits .or .u8 (clr v) 32 = clr v + 32 + 0) (by decide +kernel) v h0 h1
  · exact byte_all (p := fun v => bits .or .u8 (bits .or .u8 (clr v) 32) 16 = clr v + 32 + 16) (by decide +kernel) v h0 h1
theorem has_all (v : Int) (h0 : 0 ≤ v) (h1 : v < 256) : hasV v 207 = decide (0 < clr v) := byte_all (p := fun v => hasV v 207 = decide (0 < clr v)) (by decide +kernel) v h0 h1

/-! ### what is asked -/
theorem has_pro (n b : Int) (h0 : 0 ≤ n) (h1 : n < 256) (g0 : 0 ≤ b) (g1 : b < 256) : (bits .and .u8 n (bits .and .u8 b 207) != 0) = hasV n b := by
  have hlt : b.toNat &&& 207 < 256 := Nat.lt_of_le_of_lt Nat.and_le_right (by decide)
  rw [u8_and b 207 g0 g1 (by decide) (by decide), show (207 : Int).toNat = 207 from rfl, u8_and n _ h0 h1 (by omega) (by omega), Int.toNat_natCast]
  unfold hasV
  rw [Bool.eq_iff_iff]
  simp only [bne_iff_ne, ne_eq]
  omega
/-- Of numbers' bits from the lowest on: are two set? -/
def anyN (a b : Nat) : Nat → Bool
  | 0 => false
  | k + 1 => anyN a b k || (a.testBit k && b.testBit k)
theorem anyN_no (a b : Nat) : ∀ k, anyN a b k = false → ∀ i, i < k → (a.testBit i && b.testBit i) = false
  | 0, _, i, hi => absurd hi (by omega)
  | k + 1, h, i, hi => by
    rw [anyN, Bool.or_eq_false_iff] at h
    by_cases e : i = k
    · subst e; exact h.2
    · exact anyN_no a b k h.1 i (by omega)
theorem anyN_yes (a b : Nat) : ∀ k, anyN a b k = true → ∃ i, i < k ∧ (a.testBit i && b.testBit i) = true
  | 0, h => by simp [anyN] at h
  | k + 1, h => by
    rw [anyN, Bool.or_eq_true] at h
    rcases h with h | h
    · obtain ⟨i, hi, e⟩ := anyN_yes a b k h
      exact ⟨i, by omega, e⟩
    · exact ⟨k, by omega, h⟩
theorem anyN_and (a b : Nat) (h : a < 256) : anyN a b 8 = (a &&& b != 0) := by
  rw [Bool.eq_iff_iff, bne_iff_ne]
  constructor
  · intro e z
    obtain ⟨i, _, hi⟩ := anyN_yes a b 8 e
    rw [← Nat.testBit_and, z, Nat.zero_testBit] at hi
    exact absurd hi (by decide)
  · intro e
    cases hq : anyN a b 8
    · refine absurd (Nat.eq_of_testBit_eq fun i => ?_) e
      rw [Nat.zero_testBit, Nat.testBit_and]
      by_cases hi : i < 8
      · exact anyN_no a b 8 hq i hi
      · rw [Nat.testBit_lt_two_pow (x := a) (Nat.lt_of_lt_of_le (show a < 2 ^ 8 from h) (Nat.pow_le_pow_right (by omega) (by omega)))]
        rfl
    · rfl
theorem has_clr (n b : Int) (h0 : 0 ≤ n) (h1 : n < 256) : anyN (clr n).toNat b.toNat 8 = hasV n b := by
  obtain ⟨c0, c1⟩ := clr_le n h0 h1
  rw [anyN_and _ _ (by omega), clr_nat n h0 h1]
  unfold hasV
  rw [Nat.and_assoc, Nat.and_comm 207]
theorem has_put (n : Int) (is : Bool) : hasV (pbV n 1 is) 1 = is := by
  unfold hasV
  rw [pbV_nat]
  show (pbN n.toNat 1 is &&& 1 != 0) = is
  rw [Nat.and_one_is_mod]
  have := put_bit n.toNat 1 0 is
  rw [Nat.testBit_zero, bit_207] at this
  simp at this
  cases is
  · simp at this ⊢; omega
  · simp at this ⊢; omega
/-- Other bits than the carry hide nothing of it. -/
theorem has_over (n b : Int) (is : Bool) (h : b.toNat.testBit 0 = false) : hasV (pbV n b is) 1 = hasV n 1 := by
  unfold hasV
  rw [pbV_nat]
  show (pbN n.toNat b.toNat is &&& 1 != 0) = (n.toNat &&& 1 != 0)
  rw [Nat.and_one_is_mod, Nat.and_one_is_mod]
  have := put_bit n.toNat b.toNat 0 is
  rw [Nat.testBit_zero, bit_207, h, Nat.testBit_zero] at this
  simp at this
  rw [Bool.eq_iff_iff]
  simp
  omega

/-! ### the document's way to put bits -/
def fput (is : Bool) (x y : Int) : Bool := if y == 1 then is else x == 1
theorem acc_put (is : Bool) (a b : Int) (h0 : 0 ≤ a) (h1 : a < 256) (g0 : 0 ≤ b) (g1 : b < 256) : clr (acc (fput is) a b 8) = pbV a b is := by
  obtain ⟨x, rfl⟩ := Int.eq_ofNat_of_zero_le h0
  obtain ⟨y, rfl⟩ := Int.eq_ofNat_of_zero_le g0
  have hz : (x &&& (255 - y)) ||| (if is then y else 0) < 2 ^ 8 := Nat.or_lt_two_pow (Nat.lt_of_le_of_lt Nat.and_le_left (by omega)) (by split <;> omega)
  have e := accN_of (fun p q => if q == 1 then is else p == 1) x y _ hz fun k hk => by
    rw [bit_one, bit_one, Nat.testBit_or, Nat.testBit_and, bit_not y k (by omega)]
    cases is <;> cases hy : y.testBit k <;> simp [hk, hy]
  rw [acc_accN (fput is) (fun p q => if q == 1 then is else p == 1) (fun p q => by rw [fput, beq_one, beq_one]), e]
  refine put_ext (clr_le _ (by omega) (by omega)).1 (pbV_le _ _ _).1 fun i => ?_
  rw [clr_nat _ (by omega) (by omega), pbV_nat, Int.toNat_natCast, Int.toNat_natCast, Int.toNat_natCast, put_bit, Nat.testBit_and, Nat.testBit_or, Nat.testBit_and, bit_not y i (by omega), bit_207]
  cases is <;> cases hy : y.testBit i <;> cases x.testBit i <;> cases decide (i < 8) <;> cases (i == 4 || i == 5) <;> simp [hy]
end Go.Proofs.Ytckfjiacnjjopaa
