/-
  Contracts of the document's plain answers for bits, and of the laws' own helpers, over this seat's translation. Each value of a byte is from 0 to 255.
-/
import Derived.Test.YtckfjiacnjjopaaLbm
namespace Go.Proofs.Ytckfjiacnjjopaa
open Go.RowKit

/-! ### plain arithmetic -/
def hv (a : Int) (k : Nat) : Int := a / 2 ^ k
theorem hv_zero (a : Int) : hv a 0 = a := by simp [hv]
theorem hv_succ (a : Int) (k : Nat) : hv a k / 2 = hv a (k + 1) := by
  unfold hv
  rw [Int.ediv_ediv_of_nonneg (Int.pow_nonneg (by omega)), Int.pow_succ]
theorem hv_bounds (a : Int) (k : Nat) (h0 : 0 ≤ a) (h1 : a < 256) : 0 ≤ hv a k ∧ hv a k < 256 := shr_bounds a k h0 h1
def rb (a : Int) (k : Nat) : Int := hv a k % 2
theorem rb_two (a : Int) (k : Nat) : rb a k = 0 ∨ rb a k = 1 := by unfold rb; omega
theorem rb_bitV (a i : Int) (h0 : 0 ≤ i) (h1 : i ≤ 7) : rb a i.toNat = bitV a i := by rw [bitV, if_pos ⟨h0, h1⟩]; rfl

def pw (k : Nat) : Int := 2 ^ k
theorem pw_zero : pw 0 = 1 := rfl
theorem pw_succ (k : Nat) : pw (k + 1) = 2 * pw k := by unfold pw; rw [Int.pow_succ]; omega
theorem pw_bounds : ∀ k : Nat, k ≤ 8 → 0 ≤ pw k ∧ pw k ≤ 256
  | 0, _ | 1, _ | 2, _ | 3, _ | 4, _ | 5, _ | 6, _ | 7, _ | 8, _ => by simp [pw]

/-- The bits of two, put together by f, from the lowest on. -/
def acc (f : Int → Int → Bool) (a b : Int) : Nat → Int
  | 0 => 0
  | k + 1 => acc f a b k + if f (rb a k) (rb b k) then pw k else 0
theorem acc_bounds (f : Int → Int → Bool) (a b : Int) (k : Nat) : 0 ≤ acc f a b k ∧ acc f a b k < pw k := by
  induction k with
  | zero => simp [acc, pw]
  | succ k ih =>
    rw [acc, pw_succ]
    obtain ⟨h0, h1⟩ := ih
    split <;> omega
def fand (x y : Int) : Bool := x == 1 && y == 1
def forr (x y : Int) : Bool := x == 1 || y == 1
def fxor (x y : Int) : Bool := x != y

/-- The same in numbers that the kernel reckons with. -/
def accN (f : Nat → Nat → Bool) (a b : Nat) : Nat → Nat
  | 0 => 0
  | k + 1 => accN f a b k + if f (a / 2 ^ k % 2) (b / 2 ^ k % 2) then 2 ^ k else 0
theorem acc_accN (f : Int → Int → Bool) (g : Nat → Nat → Bool) (hg : ∀ x y : Nat, f x y = g x y) (a b k : Nat) : acc f a b k = accN g a b k := by
  induction k with
  | zero => rfl
  | succ k ih =>
    rw [acc, accN, ih]
    have h (a : Nat) : rb a k = ((a / 2 ^ k % 2 : Nat) : Int) := by unfold rb hv; simp
    rw [h a, h b, hg]
    split <;> simp [pw]
theorem accN_of (f : Nat → Nat → Bool) (a b z : Nat) (hz : z < 256) (h : ∀ k, k < 8 → f (a / 2 ^ k % 2) (b / 2 ^ k % 2) = z.testBit k) : accN f a b 8 = z := by
  have e : ∀ k, k < 8 → accN f a b (k + 1) = accN f a b k + 2 ^ k * (z / 2 ^ k % 2) := fun k hk => by
    rw [accN, h k hk, Nat.testBit_eq_decide_div_mod_eq]
    have : z / 2 ^ k % 2 < 2 := Nat.mod_lt _ (by omega)
    by_cases hb : z / 2 ^ k % 2 = 1
    · simp [hb]
    · have : z / 2 ^ k % 2 = 0 := by omega
      simp [this]
  rw [e 7 (by omega), e 6 (by omega), e 5 (by omega), e 4 (by omega), e 3 (by omega), e 2 (by omega), e 1 (by omega), e 0 (by omega), accN]
  simp only [Nat.reducePow, Nat.div_one]
  omega
theorem bit_one (a k : Nat) : (a / 2 ^ k % 2 == 1) = a.testBit k := by rw [Nat.testBit_eq_decide_div_mod_eq]; rfl
theorem bit_ne (a b k : Nat) : (a / 2 ^ k % 2 != b / 2 ^ k % 2) = (a.testBit k ^^ b.testBit k) := by
  rw [Nat.testBit_eq_decide_div_mod_eq, Nat.testBit_eq_decide_div_mod_eq]
  generalize a / 2 ^ k = x
  generalize b / 2 ^ k = y
  rcases Nat.mod_two_eq_zero_or_one x with h | h <;> rcases Nat.mod_two_eq_zero_or_one y with g | g <;> simp [h, g]
theorem accN_and (a b : Nat) (h : a < 256) : accN (fun x y => x == 1 && y == 1) a b 8 = a &&& b :=
  accN_of _ a b _ (Nat.lt_of_le_of_lt Nat.and_le_left h) fun k _ => by rw [bit_one, bit_one, Nat.testBit_and]
theorem accN_or (a b : Nat) (h : a < 256) (g : b < 256) : accN (fun x y => x == 1 || y == 1) a b 8 = a ||| b :=
  accN_of _ a b _ (Nat.or_lt_two_pow (n := 8) h g) fun k _ => by rw [bit_one, bit_one, Nat.testBit_or]
theorem accN_xor (a b : Nat) (h : a < 256) (g : b < 256) : accN (fun x y => x != y) a b 8 = a ^^^ b :=
  accN_of _ a b _ (Nat.xor_lt_two_pow (n := 8) h g) fun k _ => by rw [bit_ne, Nat.testBit_xor]
theorem beq_one (x : Nat) : ((x : Int) == 1) = (x == 1) := by rw [Bool.eq_iff_iff]; simp; omega
theorem bne_nat (x y : Nat) : ((x : Int) != y) = (x != y) := by rw [Bool.eq_iff_iff]; simp; omega
theorem acc_and (a b : Int) (h0 : 0 ≤ a) (h1 : a < 256) (g0 : 0 ≤ b) (g1 : b < 256) : acc fand a b 8 = bits .and .u8 a b := by
  rw [u8_and a b h0 h1 g0 g1]
  obtain ⟨x, rfl⟩ := Int.eq_ofNat_of_zero_le h0
  obtain ⟨y, rfl⟩ := Int.eq_ofNat_of_zero_le g0
  rw [acc_accN fand (fun x y => x == 1 && y == 1) (fun x y => by rw [fand, beq_one, beq_one])]
  exact congrArg Nat.cast (accN_and x y (by omega))
theorem acc_or (a b : Int) (h0 : 0 ≤ a) (h1 : a < 256) (g0 : 0 ≤ b) (g1 : b < 256) : acc forr a b 8 = bits .or .u8 a b := by
  rw [u8_or a b h0 h1 g0 g1]
  obtain ⟨x, rfl⟩ := Int.eq_ofNat_of_zero_le h0
  obtain ⟨y, rfl⟩ := Int.eq_ofNat_of_zero_le g0
  rw [acc_accN forr (fun x y => x == 1 || y == 1) (fun x y => by rw [forr, beq_one, beq_one])]
  exact congrArg Nat.cast (accN_or x y (by omega) (by omega))
theorem acc_xor (a b : Int) (h0 : 0 ≤ a) (h1 : a < 256) (g0 : 0 ≤ b) (g1 : b < 256) : acc fxor a b 8 = bits .xor .u8 a b := by
  rw [u8_xor a b h0 h1 g0 g1]
  obtain ⟨x, rfl⟩ := Int.eq_ofNat_of_zero_le h0
  obtain ⟨y, rfl⟩ := Int.eq_ofNat_of_zero_le g0
  rw [acc_accN fxor (fun x y => x != y) (fun x y => by rw [fxor, bne_nat])]
  exact congrArg Nat.cast (accN_xor x y (by omega) (by omega))

/-! ### the document's bit -/
def BitsP (v : Int) (w : World) (e : Ending) (w' : World) : Prop := e = .returned (.int .u8 v) ∧ w = w'
/-! ### the laws' helpers -/
/-- What 'Few' hands back. -/
def FewP (l : List (Int × Bool)) (w : World) (e : Ending) (w' : World) : Prop := ∃ v, e = .returned v ∧ Rd w v (l.take 40) ∧ w = w'
end Go.Proofs.Ytckfjiacnjjopaa
