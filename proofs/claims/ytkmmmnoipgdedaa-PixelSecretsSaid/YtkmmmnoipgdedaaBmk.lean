/-
  Masks of numbers of sixteen bits. No condition but that they are from 0 to 65535.
-/
import Derived.ProofKit
namespace Go.Proofs.Ytkmmmnoipgdedaa

theorem nat_high (x c lo n : Nat) (h : ∀ i, i < n → c.testBit i = decide (lo ≤ i)) (hx : x < 2 ^ n) : x &&& c = x / 2 ^ lo * 2 ^ lo := by
  apply Nat.eq_of_testBit_eq
  intro i
  rw [Nat.testBit_and, Nat.testBit_mul_two_pow, Nat.testBit_div_two_pow]
  by_cases hi : i < n
  · rw [h i hi]
    by_cases hl : lo ≤ i
    · simp [hl]
    · simp [hl]
  · have e : x.testBit i = false := Nat.testBit_lt_two_pow (Nat.lt_of_lt_of_le hx (Nat.pow_le_pow_right (by omega) (by omega)))
    rw [e]
    by_cases hl : lo ≤ i
    · simp [hl, e]
    · simp [hl]
theorem wrap16 {n : Int} (h0 : 0 ≤ n) (h1 : n < 65536) : IntKind.wrap .u16 n = n := by
  have hb : (2 : Int) ^ IntKind.u16.bits = 65536 := by decide
  simp only [IntKind.wrap, hb]
  rw [Int.emod_eq_of_lt h0 h1]
  simp [IntKind.signed]
theorem of16 {n : Int} (h0 : 0 ≤ n) (h1 : n < 65536) : (BitVec.ofInt 16 n).toNat = n.toNat := by
  rw [BitVec.toNat_ofInt]
  omega
theorem high16 (n : Int) (c : Int) (lo k : Nat) (m : Int) (hc : ∀ i, i < k → (BitVec.ofInt 16 c).toNat.testBit i = decide (lo ≤ i)) (hm : m = ((2 ^ lo : Nat) : Int)) (hk : k ≤ 16) (h0 : 0 ≤ n) (h1 : n < ((2 ^ k : Nat) : Int)) : bits .and .u16 n c = n / m * m := by
  have h2 : n < 65536 := by
    have : (2 : Nat) ^ k ≤ 2 ^ 16 := Nat.pow_le_pow_right (by omega) hk
    omega
  have key : (BitVec.ofInt 16 n &&& BitVec.ofInt 16 c).toNat = n.toNat / 2 ^ lo * 2 ^ lo := by
    rw [BitVec.toNat_and, of16 h0 h2]
    exact nat_high _ _ lo k hc (by omega)
  show IntKind.u16.wrap ((BitVec.ofInt 16 n &&& BitVec.ofInt 16 c).toNat : Nat) = _
  rw [key]
  subst hm
  have e : ((n.toNat / 2 ^ lo * 2 ^ lo : Nat) : Int) = n / ((2 ^ lo : Nat) : Int) * ((2 ^ lo : Nat) : Int) := by
    rw [Int.natCast_mul, Int.natCast_ediv, Int.toNat_of_nonneg h0]
  rw [e]
  have p : 0 < ((2 ^ lo : Nat) : Int) := by have := Nat.two_pow_pos lo; omega
  have q0 : 0 ≤ n / ((2 ^ lo : Nat) : Int) := Int.ediv_nonneg h0 (by omega)
  have q1 : n / ((2 ^ lo : Nat) : Int) * ((2 ^ lo : Nat) : Int) ≤ n := Int.ediv_mul_le _ (by omega)
  exact wrap16 (Int.mul_nonneg q0 (by omega)) (by omega)
theorem low16 (n : Int) (c : Int) (k : Nat) (m : Int) (hc : (BitVec.ofInt 16 c).toNat = 2 ^ k - 1) (hm : m = ((2 ^ k : Nat) : Int)) (h0 : 0 ≤ n) (h1 : n < 65536) : bits .and .u16 n c = n % m := by
  have key : (BitVec.ofInt 16 n &&& BitVec.ofInt 16 c).toNat = n.toNat % 2 ^ k := by
    rw [BitVec.toNat_and, of16 h0 h1, hc, Nat.and_two_pow_sub_one_eq_mod]
  show IntKind.u16.wrap ((BitVec.ofInt 16 n &&& BitVec.ofInt 16 c).toNat : Nat) = n % m
  rw [key]
  subst hm
  have e : ((n.toNat % 2 ^ k : Nat) : Int) = n % ((2 ^ k : Nat) : Int) := by rw [Int.natCast_emod, Int.toNat_of_nonneg h0]
  rw [e]
  have p : 0 < ((2 ^ k : Nat) : Int) := by have := Nat.two_pow_pos k; omega
  have q0 := Int.emod_nonneg n (show ((2 ^ k : Nat) : Int) ≠ 0 by omega)
  have q1 : n % ((2 ^ k : Nat) : Int) ≤ n := by rw [← e]; have := Nat.mod_le n.toNat (2 ^ k); omega
  exact wrap16 q0 (by omega)
/-- The highest bit is set. -/
theorem top16 (n : Int) (h0 : 0 ≤ n) (h1 : n < 65536) : bits .or .u16 n 32768 = n % 32768 + 32768 := by
  have key : (BitVec.ofInt 16 n ||| BitVec.ofInt 16 32768).toNat = n.toNat % 32768 + 32768 := by
    rw [BitVec.toNat_or, of16 h0 h1, of16 (by decide) (by decide)]
    show n.toNat ||| 2 ^ 15 = _
    apply Nat.eq_of_testBit_eq
    intro i
    have e : n.toNat % 32768 + 32768 = 2 ^ 15 * 1 + n.toNat % 2 ^ 15 := by omega
    rw [e, Nat.testBit_two_pow_mul_add _ (Nat.mod_lt _ (by decide)), Nat.testBit_or, Nat.testBit_two_pow, Nat.testBit_mod_two_pow]
    by_cases hi : i < 15
    · simp [hi]; omega
    · by_cases h15 : i = 15
      · subst h15; simp
      · have e2 : n.toNat.testBit i = false := Nat.testBit_lt_two_pow (Nat.lt_of_lt_of_le (show n.toNat < 2 ^ 16 by omega) (Nat.pow_le_pow_right (by omega) (by omega)))
        rw [e2]
        have e3 : (1 : Nat).testBit (i - 15) = false := Nat.testBit_lt_two_pow (Nat.lt_of_lt_of_le (show (1 : Nat) < 2 ^ 1 by decide) (Nat.pow_le_pow_right (by omega) (by omega)))
        simp [hi, e3]
        omega
  show IntKind.u16.wrap ((BitVec.ofInt 16 n ||| BitVec.ofInt 16 32768).toNat : Nat) = _
  rw [key]
  have e : ((n.toNat % 32768 + 32768 : Nat) : Int) = n % 32768 + 32768 := by omega
  rw [e]
  exact wrap16 (by omega) (by omega)
theorem mask_e000 (n : Int) (h0 : 0 ≤ n) (h1 : n < 65536) : bits .and .u16 n 57344 = n / 8192 * 8192 :=
  high16 n 57344 13 16 8192 (by decide) (by decide) (by decide) h0 (by simpa using h1)
theorem mask_1fff (n : Int) (h0 : 0 ≤ n) (h1 : n < 65536) : bits .and .u16 n 8191 = n % 8192 := low16 n 8191 13 8192 (by decide) (by decide) h0 h1
theorem mask_1c00 (n : Int) (h0 : 0 ≤ n) (h1 : n < 8192) : bits .and .u16 n 7168 = n / 1024 * 1024 :=
  high16 n 7168 10 13 1024 (by decide) (by decide) (by decide) h0 (by simpa using h1)
theorem mask_3ff (n : Int) (h0 : 0 ≤ n) (h1 : n < 65536) : bits .and .u16 n 1023 = n % 1024 := low16 n 1023 10 1024 (by decide) (by decide) h0 h1
end Go.Proofs.Ytkmmmnoipgdedaa
