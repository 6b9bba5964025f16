/-
  Numbers of sixteen bits that are packed of fields (coarse X and Y, the screens, fine Y), and masks of them. No condition but that numbers are in range.
-/
import Derived.Test.YtbonamhinnhlnaaDoorBmk
namespace Go.Proofs.YtbonamhinnhlnaaDoor

theorem and_pk (k a b c d : Nat) (ha : a < 2 ^ k) (hc : c < 2 ^ k) : (2 ^ k * b + a) &&& (2 ^ k * d + c) = 2 ^ k * (b &&& d) + (a &&& c) := by
  apply Nat.eq_of_testBit_eq
  intro j
  rw [Nat.testBit_and, Nat.testBit_two_pow_mul_add _ ha, Nat.testBit_two_pow_mul_add _ hc, Nat.testBit_two_pow_mul_add _ (Nat.and_lt_two_pow _ hc)]
  split <;> simp [Nat.testBit_and]
theorem or_pk (k a b c d : Nat) (ha : a < 2 ^ k) (hc : c < 2 ^ k) : (2 ^ k * b + a) ||| (2 ^ k * d + c) = 2 ^ k * (b ||| d) + (a ||| c) := by
  apply Nat.eq_of_testBit_eq
  intro j
  rw [Nat.testBit_or, Nat.testBit_two_pow_mul_add _ ha, Nat.testBit_two_pow_mul_add _ hc, Nat.testBit_two_pow_mul_add _ (Nat.or_lt_two_pow ha hc)]
  split <;> simp [Nat.testBit_or]
theorem xor_pk (k a b c d : Nat) (ha : a < 2 ^ k) (hc : c < 2 ^ k) : (2 ^ k * b + a) ^^^ (2 ^ k * d + c) = 2 ^ k * (b ^^^ d) + (a ^^^ c) := by
  apply Nat.eq_of_testBit_eq
  intro j
  rw [Nat.testBit_xor, Nat.testBit_two_pow_mul_add _ ha, Nat.testBit_two_pow_mul_add _ hc, Nat.testBit_two_pow_mul_add _ (Nat.xor_lt_two_pow ha hc)]
  split <;> simp [Nat.testBit_xor]
/-- Of five fields: five bits, five, one, one, and four. -/
def pk (x y h v f : Nat) : Nat := 2 ^ 5 * (2 ^ 5 * (2 ^ 1 * (2 ^ 1 * f + v) + h) + y) + x
theorem pk_eq (x y h v f : Nat) : pk x y h v f = x + 32 * y + 1024 * h + 2048 * v + 4096 * f := by unfold pk; omega
theorem pk_of (n : Nat) : n = pk (n % 32) (n / 32 % 32) (n / 1024 % 2) (n / 2048 % 2) (n / 4096) := by rw [pk_eq]; omega
section
variable {x y h v f x' y' h' v' f' : Nat}
theorem pk_and (a : x < 32) (b : y < 32) (c : h < 2) (d : v < 2) (a' : x' < 32) (b' : y' < 32) (c' : h' < 2) (d' : v' < 2) : pk x y h v f &&& pk x' y' h' v' f' = pk (x &&& x') (y &&& y') (h &&& h') (v &&& v') (f &&& f') := by
  unfold pk
  rw [and_pk 5 _ _ _ _ a a', and_pk 5 _ _ _ _ b b', and_pk 1 _ _ _ _ c c', and_pk 1 _ _ _ _ d d']
theorem pk_or (a : x < 32) (b : y < 32) (c : h < 2) (d : v < 2) (a' : x' < 32) (b' : y' < 32) (c' : h' < 2) (d' : v' < 2) : pk x y h v f ||| pk x' y' h' v' f' = pk (x ||| x') (y ||| y') (h ||| h') (v ||| v') (f ||| f') := by
  unfold pk
  rw [or_pk 5 _ _ _ _ a a', or_pk 5 _ _ _ _ b b', or_pk 1 _ _ _ _ c c', or_pk 1 _ _ _ _ d d']
theorem pk_xor (a : x < 32) (b : y < 32) (c : h < 2) (d : v < 2) (a' : x' < 32) (b' : y' < 32) (c' : h' < 2) (d' : v' < 2) : pk x y h v f ^^^ pk x' y' h' v' f' = pk (x ^^^ x') (y ^^^ y') (h ^^^ h') (v ^^^ v') (f ^^^ f') := by
  unfold pk
  rw [xor_pk 5 _ _ _ _ a a', xor_pk 5 _ _ _ _ b b', xor_pk 1 _ _ _ _ c c', xor_pk 1 _ _ _ _ d d']
end
theorem and_all {n k : Nat} (h : n < 2 ^ k) : n &&& (2 ^ k - 1) = n := by rw [Nat.and_two_pow_sub_one_eq_mod, Nat.mod_eq_of_lt h]
/-- Masks of fields: all of one, or nothing. -/
theorem f31 {n : Nat} (h : n < 32) : n &&& 31 = n := and_all (k := 5) h
theorem f1 {n : Nat} (h : n < 2) : n &&& 1 = n := and_all (k := 1) h
theorem f15 {n : Nat} (h : n < 16) : n &&& 15 = n := and_all (k := 4) h
theorem f7 {n : Nat} : n &&& 7 = n % 8 := Nat.and_two_pow_sub_one_eq_mod n 3
theorem f8 : ∀ {n : Nat}, n < 16 → n &&& 8 = n / 8 * 8 := by decide
theorem or87' : ∀ a : Nat, a < 16 → ∀ b : Nat, b < 16 → (a / 8 * 8) ||| (b % 8) = a / 8 * 8 + b % 8 := by decide
theorem or87 {a b : Nat} (ha : a < 16) (hb : b < 16) : (a / 8 * 8) ||| (b % 8) = a / 8 * 8 + b % 8 := or87' a ha b hb
theorem x1 : ∀ {n : Nat}, n < 2 → n ^^^ 1 = 1 - n := by decide

/-- Operations of sixteen bits, of naturals. -/
theorem b16_and (x y : Nat) (hx : x < 65536) (hy : y < 65536) : bits .and .u16 (x : Int) (y : Int) = ((x &&& y : Nat) : Int) := by
  have key : (BitVec.ofInt 16 (x : Int) &&& BitVec.ofInt 16 (y : Int)).toNat = x &&& y := by
    rw [BitVec.toNat_and, of16 (by omega) (by omega), of16 (by omega) (by omega)]; simp
  show IntKind.u16.wrap ((BitVec.ofInt 16 (x : Int) &&& BitVec.ofInt 16 (y : Int)).toNat : Nat) = _
  rw [key]
  have : x &&& y < 2 ^ 16 := Nat.and_lt_two_pow _ hy
  exact wrap16 (by omega) (by omega)
theorem b16_or (x y : Nat) (hx : x < 65536) (hy : y < 65536) : bits .or .u16 (x : Int) (y : Int) = ((x ||| y : Nat) : Int) := by
  have key : (BitVec.ofInt 16 (x : Int) ||| BitVec.ofInt 16 (y : Int)).toNat = x ||| y := by
    rw [BitVec.toNat_or, of16 (by omega) (by omega), of16 (by omega) (by omega)]; simp
  show IntKind.u16.wrap ((BitVec.ofInt 16 (x : Int) ||| BitVec.ofInt 16 (y : Int)).toNat : Nat) = _
  rw [key]
  have : x ||| y < 2 ^ 16 := Nat.or_lt_two_pow hx hy
  exact wrap16 (by omega) (by omega)
theorem b16_xor (x y : Nat) (hx : x < 65536) (hy : y < 65536) : bits .xor .u16 (x : Int) (y : Int) = ((x ^^^ y : Nat) : Int) := by
  have key : (BitVec.ofInt 16 (x : Int) ^^^ BitVec.ofInt 16 (y : Int)).toNat = x ^^^ y := by
    rw [BitVec.toNat_xor, of16 (by omega) (by omega), of16 (by omega) (by omega)]; simp
  show IntKind.u16.wrap ((BitVec.ofInt 16 (x : Int) ^^^ BitVec.ofInt 16 (y : Int)).toNat : Nat) = _
  rw [key]
  have : x ^^^ y < 2 ^ 16 := Nat.xor_lt_two_pow hx hy
  exact wrap16 (by omega) (by omega)
theorem b16_an (x y : Nat) (hx : x < 65536) (hy : y < 65536) : bits .andNot .u16 (x : Int) (y : Int) = ((x &&& (65535 - y) : Nat) : Int) := by
  have key : (BitVec.ofInt 16 (x : Int) &&& ~~~ (BitVec.ofInt 16 (y : Int))).toNat = x &&& (65535 - y) := by
    rw [BitVec.toNat_and, BitVec.toNat_not, of16 (by omega) (by omega), of16 (by omega) (by omega)]; simp
  show IntKind.u16.wrap ((BitVec.ofInt 16 (x : Int) &&& ~~~ (BitVec.ofInt 16 (y : Int))).toNat : Nat) = _
  rw [key]
  have : x &&& (65535 - y) < 2 ^ 16 := Nat.and_lt_two_pow _ (by omega)
  exact wrap16 (by omega) (by omega)

/-- A number in which the bits of a mask are those of another one. -/
def pt (to m fr : Int) : Int := bits .or .u16 (bits .andNot .u16 to m) (bits .and .u16 fr m)
theorem pt_nat (a m b : Nat) (ha : a < 65536) (hm : m < 65536) (hb : b < 65536) : pt (a : Int) (m : Int) (b : Int) = (((a &&& (65535 - m)) ||| (b &&& m) : Nat) : Int) := by
  unfold pt
  rw [b16_an a m ha hm, b16_and b m hb hm]
  have h1 : a &&& (65535 - m) < 2 ^ 16 := Nat.and_lt_two_pow _ (by omega)
  have h2 : b &&& m < 2 ^ 16 := Nat.and_lt_two_pow _ hm
  exact b16_or _ _ h1 h2
/-- The same by fields: those of the mask (31, or 0; 31, or 0; 1, or 0; 1, or 0; 15, 7, or 0). -/
theorem pt_pk (m x y h v f x' y' h' v' f' mx my mh mv mf : Nat) (hm : m = pk mx my mh mv mf) (hmx : mx = 31 ∨ mx = 0) (hmy : my = 31 ∨ my = 0) (hmh : mh = 1 ∨ mh = 0) (hmv : mv = 1 ∨ mv = 0) (hmf : mf = 7 ∨ mf = 0)
    (a : x < 32) (b : y < 32) (c : h < 2) (d : v < 2) (e : f < 16) (a' : x' < 32) (b' : y' < 32) (c' : h' < 2) (d' : v' < 2) (e' : f' < 16) :
    pt (pk x y h v f : Nat) (m : Nat) (pk x' y' h' v' f' : Nat) =
      ((pk (if mx = 0 then x else x') (if my = 0 then y else y') (if mh = 0 then h else h') (if mv = 0 then v else v') (if mf = 0 then f else f / 8 * 8 + f' % 8) : Nat) : Int) := by
  have hp : ∀ x y h v f, x < 32 → y < 32 → h < 2 → v < 2 → f < 16 → pk x y h v f < 65536 := fun x y h v f _ _ _ _ _ => by rw [pk_eq]; omega
  have mb : m < 65536 := by rw [hm]; rcases hmx with rfl | rfl <;> rcases hmy with rfl | rfl <;> rcases hmh with rfl | rfl <;> rcases hmv with rfl | rfl <;> rcases hmf with rfl | rfl <;> decide
  rw [pt_nat _ _ _ (hp _ _ _ _ _ a b c d e) mb (hp _ _ _ _ _ a' b' c' d' e')]
  have hc : 65535 - m = pk (31 - mx) (31 - my) (1 - mh) (1 - mv) (15 - mf) := by
    rw [hm]; rcases hmx with rfl | rfl <;> rcases hmy with rfl | rfl <;> rcases hmh with rfl | rfl <;> rcases hmv with rfl | rfl <;> rcases hmf with rfl | rfl <;> decide
  rw [hc, hm, pk_and a b c d (by omega) (by omega) (by omega) (by omega), pk_and a' b' c' d' (by omega) (by omega) (by omega) (by omega)]
  rw [pk_or (Nat.lt_of_le_of_lt Nat.and_le_left a) (Nat.lt_of_le_of_lt Nat.and_le_left b) (Nat.lt_of_le_of_lt Nat.and_le_left c) (Nat.lt_of_le_of_lt Nat.and_le_left d) (Nat.lt_of_le_of_lt Nat.and_le_left a') (Nat.lt_of_le_of_lt Nat.and_le_left b') (Nat.lt_of_le_of_lt Nat.and_le_left c') (Nat.lt_of_le_of_lt Nat.and_le_left d')]
  have k1 : (x &&& (31 - mx)) ||| (x' &&& mx) = if mx = 0 then x else x' := by rcases hmx with rfl | rfl <;> simp [f31 a, f31 a']
  have k2 : (y &&& (31 - my)) ||| (y' &&& my) = if my = 0 then y else y' := by rcases hmy with rfl | rfl <;> simp [f31 b, f31 b']
  have k3 : (h &&& (1 - mh)) ||| (h' &&& mh) = if mh = 0 then h else h' := by rcases hmh with rfl | rfl <;> simp [f1 c, f1 c']
  have k4 : (v &&& (1 - mv)) ||| (v' &&& mv) = if mv = 0 then v else v' := by rcases hmv with rfl | rfl <;> simp [f1 d, f1 d']
  have k5 : (f &&& (15 - mf)) ||| (f' &&& mf) = if mf = 0 then f else f / 8 * 8 + f' % 8 := by
    rcases hmf with rfl | rfl
    · simp only [show 15 - 7 = 8 from rfl, f8 e, f7, or87 e e']; simp
    · simp [f15 e]
  rw [k1, k2, k3, k4, k5]
/-- In numbers. -/
theorem pt_int (m : Nat) (mx my mh mv mf : Nat) (hm : m = pk mx my mh mv mf) (hmx : mx = 31 ∨ mx = 0) (hmy : my = 31 ∨ my = 0) (hmh : mh = 1 ∨ mh = 0) (hmv : mv = 1 ∨ mv = 0) (hmf : mf = 7 ∨ mf = 0) (a b : Int) (a0 : 0 ≤ a) (a1 : a < 65536) (b0 : 0 ≤ b) (b1 : b < 65536) :
    pt a (m : Nat) b = (if mx = 0 then a else b) % 32 + 32 * ((if my = 0 then a else b) / 32 % 32) + 1024 * ((if mh = 0 then a else b) / 1024 % 2) + 2048 * ((if mv = 0 then a else b) / 2048 % 2) + 4096 * (if mf = 0 then a / 4096 else a / 32768 * 8 + b / 4096 % 8) := by
  obtain ⟨n, rfl⟩ : ∃ n : Nat, a = n := ⟨a.toNat, by omega⟩
  obtain ⟨k, rfl⟩ : ∃ n : Nat, b = n := ⟨b.toNat, by omega⟩
  have e := pt_pk m (n % 32) (n / 32 % 32) (n / 1024 % 2) (n / 2048 % 2) (n / 4096) (k % 32) (k / 32 % 32) (k / 1024 % 2) (k / 2048 % 2) (k / 4096) mx my mh mv mf hm hmx hmy hmh hmv hmf (by omega) (by omega) (by omega) (by omega) (by omega) (by omega) (by omega) (by omega) (by omega) (by omega)
  rw [← pk_of n, ← pk_of k] at e
  rw [e, pk_eq]
  rcases hmx with rfl | rfl <;> rcases hmy with rfl | rfl <;> rcases hmh with rfl | rfl <;> rcases hmv with rfl | rfl <;> rcases hmf with rfl | rfl <;> simp <;> omega
theorem pt_scr (a b : Int) (a0 : 0 ≤ a) (a1 : a < 65536) (b0 : 0 ≤ b) (b1 : b < 65536) : pt a 3072 b = a % 1024 + b / 1024 % 4 * 1024 + a / 4096 * 4096 := by
  have e := pt_int 3072 0 0 1 1 0 (by decide) (by simp) (by simp) (by simp) (by simp) (by simp) a b a0 a1 b0 b1
  simp at e
  rw [e]; omega
theorem pt_yf (a b : Int) (a0 : 0 ≤ a) (a1 : a < 65536) (b0 : 0 ≤ b) (b1 : b < 65536) : pt a 29664 b = a % 32 + b / 32 % 32 * 32 + a / 1024 % 4 * 1024 + b / 4096 % 8 * 4096 + a / 32768 * 32768 := by
  have e := pt_int 29664 0 31 0 0 7 (by decide) (by simp) (by simp) (by simp) (by simp) (by simp) a b a0 a1 b0 b1
  simp at e
  rw [e]; omega
theorem pt_x (a b : Int) (a0 : 0 ≤ a) (a1 : a < 65536) (b0 : 0 ≤ b) (b1 : b < 65536) : pt a 31 b = b % 32 + a / 32 * 32 := by
  have e := pt_int 31 31 0 0 0 0 (by decide) (by simp) (by simp) (by simp) (by simp) (by simp) a b a0 a1 b0 b1
  simp at e
  rw [e]; omega
theorem pt_cols (a b : Int) (a0 : 0 ≤ a) (a1 : a < 65536) (b0 : 0 ≤ b) (b1 : b < 65536) : pt a 1055 b = b % 32 + a / 32 % 32 * 32 + b / 1024 % 2 * 1024 + a / 2048 * 2048 := by
  have e := pt_int 1055 31 0 1 0 0 (by decide) (by simp) (by simp) (by simp) (by simp) (by simp) a b a0 a1 b0 b1
  simp at e
  rw [e]; omega
theorem pt_lines (a b : Int) (a0 : 0 ≤ a) (a1 : a < 65536) (b0 : 0 ≤ b) (b1 : b < 65536) : pt a 31712 b = a % 32 + b / 32 % 32 * 32 + a / 1024 % 2 * 1024 + b / 2048 % 16 % 16 * 2048 + a / 32768 * 32768 := by
  have e := pt_int 31712 0 31 0 1 7 (by decide) (by simp) (by simp) (by simp) (by simp) (by simp) a b a0 a1 b0 b1
  simp at e
  rw [e]; omega
/-- A mask of one field alone; its bits, and all others. -/
theorem an_pk (m : Nat) (hm : m < 65536) (a : Int) (a0 : 0 ≤ a) (a1 : a < 65536) : bits .andNot .u16 a (m : Nat) = pt a (m : Nat) 0 := by
  obtain ⟨n, rfl⟩ : ∃ n : Nat, a = n := ⟨a.toNat, by omega⟩
  have e := pt_nat n m 0 (by omega) hm (by omega)
  rw [Nat.zero_and, Nat.or_zero] at e
  rw [b16_an n m (by omega) hm]
  exact e.symm
theorem and_as (m : Nat) (hm : m < 65536) (a : Int) (a0 : 0 ≤ a) (a1 : a < 65536) : bits .and .u16 a (m : Nat) = pt 0 (m : Nat) a := by
  obtain ⟨n, rfl⟩ : ∃ n : Nat, a = n := ⟨a.toNat, by omega⟩
  have e := pt_nat 0 m n (by omega) hm (by omega)
  rw [Nat.zero_and, Nat.zero_or] at e
  rw [b16_and n m (by omega) hm]
  exact e.symm
section
variable (a : Int) (a0 : 0 ≤ a) (a1 : a < 65536)
include a0 a1
theorem an_31 : bits .andNot .u16 a 31 = a / 32 * 32 := by
  have e := an_pk 31 (by decide) a a0 a1
  have e2 := pt_x a 0 a0 a1 (by omega) (by omega)
  simp at e e2; rw [e, e2]
theorem an_992 : bits .andNot .u16 a 992 = a % 32 + a / 1024 * 1024 := by
  have e := an_pk 992 (by decide) a a0 a1
  have e2 := pt_int 992 0 31 0 0 0 (by decide) (by simp) (by simp) (by simp) (by simp) (by simp) a 0 a0 a1 (by omega) (by omega)
  simp at e e2; rw [e, e2]; omega
theorem an_28672 : bits .andNot .u16 a 28672 = a % 4096 + a / 32768 * 32768 := by
  have e := an_pk 28672 (by decide) a a0 a1
  have e2 := pt_int 28672 0 0 0 0 7 (by decide) (by simp) (by simp) (by simp) (by simp) (by simp) a 0 a0 a1 (by omega) (by omega)
  simp at e e2; rw [e, e2]; omega
theorem and_992 : bits .and .u16 a 992 = a / 32 % 32 * 32 := by
  have e := and_as 992 (by decide) a a0 a1
  have e2 := pt_int 992 0 31 0 0 0 (by decide) (by simp) (by simp) (by simp) (by simp) (by simp) 0 a (by omega) (by omega) a0 a1
  simp at e e2; rw [e, e2]; omega
theorem and_28672 : bits .and .u16 a 28672 = a / 4096 % 8 * 4096 := by
  have e := and_as 28672 (by decide) a a0 a1
  have e2 := pt_int 28672 0 0 0 0 7 (by decide) (by simp) (by simp) (by simp) (by simp) (by simp) 0 a (by omega) (by omega) a0 a1
  simp at e e2; rw [e, e2]; omega
theorem and_3072 : bits .and .u16 a 3072 = a / 1024 % 4 * 1024 := by
  have e := and_as 3072 (by decide) a a0 a1
  have e2 := pt_scr 0 a (by omega) (by omega) a0 a1
  simp at e e2; rw [e, e2]
theorem and_31712 : bits .and .u16 a 31712 = a / 32 % 32 * 32 + a / 2048 % 16 * 2048 := by
  have e := and_as 31712 (by decide) a a0 a1
  have e2 := pt_lines 0 a (by omega) (by omega) a0 a1
  simp at e e2; rw [e, e2]
theorem and_1055 : bits .and .u16 a 1055 = a % 32 + a / 1024 % 2 * 1024 := by
  have e := and_as 1055 (by decide) a a0 a1
  have e2 := pt_cols 0 a (by omega) (by omega) a0 a1
  simp at e e2; rw [e, e2]
theorem and_31 : bits .and .u16 a 31 = a % 32 := low16 a 31 5 32 (by decide) (by decide) a0 a1
theorem and_fff : bits .and .u16 a 4095 = a % 4096 := low16 a 4095 12 4096 (by decide) (by decide) a0 a1
theorem and_3fff : bits .and .u16 a 16383 = a % 16384 := low16 a 16383 14 16384 (by decide) (by decide) a0 a1
theorem xor_1024 : bits .xor .u16 a 1024 = a + 1024 - a / 1024 % 2 * 2048 := by
  obtain ⟨n, rfl⟩ : ∃ n : Nat, a = n := ⟨a.toNat, by omega⟩
  have e := b16_xor n 1024 (by omega) (by omega)
  rw [show ((1024 : Nat) : Int) = 1024 from rfl] at e
  rw [e]
  have e2 : n ^^^ 1024 = pk (n % 32) (n / 32 % 32) (1 - n / 1024 % 2) (n / 2048 % 2) (n / 4096) := by
    have e3 : n ^^^ 1024 = pk (n % 32) (n / 32 % 32) (n / 1024 % 2) (n / 2048 % 2) (n / 4096) ^^^ pk 0 0 1 0 0 := by rw [← pk_of n]; rfl
    rw [e3, pk_xor (by omega) (by omega) (by omega) (by omega) (by omega) (by omega) (by omega) (by omega), x1 (by omega)]
    simp
  rw [e2, pk_eq]
  omega
theorem xor_2048 : bits .xor .u16 a 2048 = a + 2048 - a / 2048 % 2 * 4096 := by
  obtain ⟨n, rfl⟩ : ∃ n : Nat, a = n := ⟨a.toNat, by omega⟩
  have e := b16_xor n 2048 (by omega) (by omega)
  rw [show ((2048 : Nat) : Int) = 2048 from rfl] at e
  rw [e]
  have e2 : n ^^^ 2048 = pk (n % 32) (n / 32 % 32) (n / 1024 % 2) (1 - n / 2048 % 2) (n / 4096) := by
    have e3 : n ^^^ 2048 = pk (n % 32) (n / 32 % 32) (n / 1024 % 2) (n / 2048 % 2) (n / 4096) ^^^ pk 0 0 0 1 0 := by rw [← pk_of n]; rfl
    rw [e3, pk_xor (by omega) (by omega) (by omega) (by omega) (by omega) (by omega) (by omega) (by omega), x1 (by omega)]
    simp
  rw [e2, pk_eq]
  omega
end
/-- The lower octet, and seven bits of the higher one. -/
theorem pt_lo (a b : Int) (a0 : 0 ≤ a) (a1 : a < 65536) (b0 : 0 ≤ b) (b1 : b < 65536) : pt a 255 b = b % 256 + a / 256 * 256 := by
  obtain ⟨n, rfl⟩ : ∃ n : Nat, a = n := ⟨a.toNat, by omega⟩
  obtain ⟨k, rfl⟩ : ∃ n : Nat, b = n := ⟨b.toNat, by omega⟩
  have e := pt_nat n 255 k (by omega) (by omega) (by omega)
  have e1 : n &&& (65535 - 255) = 2 ^ 8 * (n / 256) + 0 := by
    conv => lhs; rw [show n = 2 ^ 8 * (n / 256) + n % 256 by omega, show 65535 - 255 = 2 ^ 8 * 255 + 0 by decide]
    rw [and_pk 8 _ _ _ _ (by omega) (by omega), Nat.and_zero]
    have := and_all (k := 8) (show n / 256 < 2 ^ 8 by omega)
    rw [show 2 ^ 8 - 1 = 255 from rfl] at this
    rw [this]
  have e2 : k &&& 255 = k % 256 := Nat.and_two_pow_sub_one_eq_mod k 8
  rw [e1, e2, show k % 256 = 2 ^ 8 * 0 + k % 256 by omega, or_pk 8 _ _ _ _ (by omega) (by omega), Nat.zero_or, Nat.or_zero] at e
  rw [show ((255 : Nat) : Int) = 255 from rfl] at e
  rw [e]
  omega
theorem pt_hi (a b : Int) (a0 : 0 ≤ a) (a1 : a < 32768) (b0 : 0 ≤ b) (b1 : b < 32768) : pt a 32512 b = a % 256 + b / 256 * 256 := by
  obtain ⟨n, rfl⟩ : ∃ n : Nat, a = n := ⟨a.toNat, by omega⟩
  obtain ⟨k, rfl⟩ : ∃ n : Nat, b = n := ⟨b.toNat, by omega⟩
  have e := pt_nat n 32512 k (by omega) (by omega) (by omega)
  have e1 : n &&& (65535 - 32512) = n % 256 := by
    conv => lhs; rw [show n = 2 ^ 8 * (2 ^ 7 * 0 + n / 256) + n % 256 by omega, show 65535 - 32512 = 2 ^ 8 * (2 ^ 7 * 1 + 0) + 255 by decide]
    rw [and_pk 8 _ _ _ _ (by omega) (by omega), and_pk 7 _ _ _ _ (by omega) (by omega), Nat.zero_and, Nat.and_zero]
    have := and_all (k := 8) (show n % 256 < 2 ^ 8 by omega)
    rw [show 2 ^ 8 - 1 = 255 from rfl] at this
    rw [this]
    omega
  have e2 : k &&& 32512 = 2 ^ 8 * (k / 256) + 0 := by
    conv => lhs; rw [show k = 2 ^ 8 * (k / 256) + k % 256 by omega, show 32512 = 2 ^ 8 * 127 + 0 by decide]
    rw [and_pk 8 _ _ _ _ (by omega) (by omega), Nat.and_zero]
    have := and_all (k := 7) (show k / 256 < 2 ^ 7 by omega)
    rw [show 2 ^ 7 - 1 = 127 from rfl] at this
    rw [this]
  rw [e1, e2, show n % 256 = 2 ^ 8 * 0 + n % 256 by omega, or_pk 8 _ _ _ _ (by omega) (by omega), Nat.zero_or, Nat.or_zero] at e
  rw [show ((32512 : Nat) : Int) = 32512 from rfl] at e
  rw [e]
  omega
end Go.Proofs.YtbonamhinnhlnaaDoor
