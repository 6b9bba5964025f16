/-
  Several texts in one: what is read and written by the functions on the way to the statements. Conditions stand in each theorem.
-/
import Derived.Test.YtcgnnbgknaamdaaGreatDoorX01
import Derived.WalkKit
import Derived.ProofKit
import Derived.Lib.Hide
import Derived.Lib.QuietBelow
import Derived.BigQuiet
import Derived.Laws.Tables
import Derived.Laws.Rows
import Derived.Deep.QuietTactic
import Derived.OrdersIn
import Derived.TacticsIn
import Derived.RangeFuncCalls
namespace Go.Proofs.YtcgnnbgknaamdaaGreatDoor

/-! ### flags -/
/-- Without bits 4 and 5. -/
def clr (n : Int) : Int := n % 16 + n / 64 * 64
/-- Bits b are set, or not; 4 and 5 are none. -/
def pbN (n b : Nat) (is : Bool) : Nat := if is then (n &&& 207 &&& (255 - (b &&& 207))) ||| (b &&& 207) else n &&& 207 &&& (255 - (b &&& 207))
def pbV (n b : Int) (is : Bool) : Int := (pbN n.toNat b.toNat is : Nat)
/-- Is one of bits b set? -/
def hasV (n b : Int) : Bool := n.toNat &&& (b.toNat &&& 207) != 0
/-- A bit, as a number. -/
def oneI (b : Bool) : Int := if b then 1 else 0

theorem bit_not (x i : Nat) (h : x < 256) : (255 - x).testBit i = (decide (i < 8) && !x.testBit i) := by
  have := Nat.testBit_two_pow_sub_succ (x := x) (n := 8) h i
  simpa [Nat.sub_sub, Nat.add_comm] using this
theorem bit_207 (i : Nat) : (207 : Nat).testBit i = (decide (i < 8) && !(i == 4 || i == 5)) := by
  by_cases h : i < 8
  · have : ∀ i : Fin 8, (207 : Nat).testBit i.val = (decide (i.val < 8) && !(i.val == 4 || i.val == 5)) := by decide
    exact this ⟨i, h⟩
  · rw [Nat.testBit_lt_two_pow (x := 207) (Nat.lt_of_lt_of_le (show 207 < 2 ^ 8 by decide) (Nat.pow_le_pow_right (by omega) (by omega)))]
    simp [h]
theorem put_bit (n b i : Nat) (is : Bool) : (pbN n b is).testBit i = ((207 : Nat).testBit i && if b.testBit i then is else n.testBit i) := by
  have hb : b &&& 207 < 256 := Nat.lt_of_le_of_lt Nat.and_le_right (by decide)
  unfold pbN
  cases is
  · simp only [Bool.false_eq_true, if_false]
    rw [Nat.testBit_and, Nat.testBit_and, bit_not _ _ hb, Nat.testBit_and, bit_207]
    cases decide (i < 8) <;> cases n.testBit i <;> cases b.testBit i <;> cases (i == 4 || i == 5) <;> rfl
  · simp only [if_true]
    rw [Nat.testBit_or, Nat.testBit_and, Nat.testBit_and, bit_not _ _ hb, Nat.testBit_and, bit_207]
    cases decide (i < 8) <;> cases n.testBit i <;> cases b.testBit i <;> cases (i == 4 || i == 5) <;> rfl
theorem put_lt (n b : Nat) (is : Bool) : pbN n b is < 256 := by
  have h1 : n &&& 207 &&& (255 - (b &&& 207)) < 2 ^ 8 := Nat.lt_of_le_of_lt Nat.and_le_left (Nat.lt_of_le_of_lt Nat.and_le_right (by decide))
  have h2 : b &&& 207 < 2 ^ 8 := Nat.lt_of_le_of_lt Nat.and_le_right (by decide)
  unfold pbN
  split
  · exact Nat.or_lt_two_pow h1 h2
  · exact h1
theorem pbV_le (n b : Int) (is : Bool) : 0 ≤ pbV n b is ∧ pbV n b is < 256 := by
  have := put_lt n.toNat b.toNat is
  unfold pbV
  omega
theorem pbV_nat (n b : Int) (is : Bool) : (pbV n b is).toNat = pbN n.toNat b.toNat is := by unfold pbV; rw [Int.toNat_natCast]
theorem hand207 (x : Int) (h0 : 0 ≤ x) (h1 : x < 256) : bits .and .u8 x 207 = clr x := byte_all (p := fun x => bits .and .u8 x 207 = x % 16 + x / 64 * 64) (by decide +kernel) x h0 h1
theorem clr_le (x : Int) (h0 : 0 ≤ x) (h1 : x < 256) : 0 ≤ clr x ∧ clr x < 256 := by unfold clr; omega
theorem clr_clr (x : Int) : clr (clr x) = clr x := by unfold clr; omega
theorem clr_nat (x : Int) (h0 : 0 ≤ x) (h1 : x < 256) : (clr x).toNat = x.toNat &&& 207 := by
  rw [← hand207 x h0 h1, u8_and x 207 h0 h1 (by decide) (by decide)]
  rfl
theorem int_eq {a b : Int} (h0 : 0 ≤ a) (g0 : 0 ≤ b) (h : a.toNat = b.toNat) : a = b := by omega
theorem put_ext {a b : Int} (h0 : 0 ≤ a) (g0 : 0 ≤ b) (h : ∀ i, a.toNat.testBit i = b.toNat.testBit i) : a = b := int_eq h0 g0 (Nat.eq_of_testBit_eq h)
theorem clr_put (n b : Int) (is : Bool) : clr (pbV n b is) = pbV n b is := by
  obtain ⟨h0, h1⟩ := pbV_le n b is
  refine put_ext (clr_le _ h0 h1).1 h0 fun i => ?_
  rw [clr_nat _ h0 h1, pbV_nat, Nat.testBit_and, put_bit]
  cases (207 : Nat).testBit i <;> simp
theorem put_clr (n b : Int) (is : Bool) (h0 : 0 ≤ n) (h1 : n < 256) : pbV (clr n) b is = pbV n b is := by
  refine put_ext (pbV_le _ _ _).1 (pbV_le _ _ _).1 fun i => ?_
  rw [pbV_nat, pbV_nat, put_bit, put_bit, clr_nat n h0 h1, Nat.testBit_and]
  cases (207 : Nat).testBit i <;> simp
/-- Bits that are not the same ones may be put in any order. -/
theorem put_comm (n a b : Int) (x y : Bool) (h : a.toNat &&& b.toNat = 0) : pbV (pbV n a x) b y = pbV (pbV n b y) a x := by
  refine put_ext (pbV_le _ _ _).1 (pbV_le _ _ _).1 fun i => ?_
  rw [pbV_nat, pbV_nat, put_bit, put_bit, pbV_nat, pbV_nat, put_bit, put_bit]
  have hb : (a.toNat.testBit i && b.toNat.testBit i) = false := by rw [← Nat.testBit_and, h, Nat.zero_testBit]
  revert hb
  cases (207 : Nat).testBit i <;> cases a.toNat.testBit i <;> cases b.toNat.testBit i <;> simp
/-- The program's way: bits are taken away, then set. -/
theorem put_no (n b : Int) (h0 : 0 ≤ n) (h1 : n < 256) (hn : clr n = n) (g0 : 0 ≤ b) (g1 : b < 256) : bits .andNot .u8 n (bits .and .u8 b 207) = pbV n b false := by
  have hm := u8_and b 207 g0 g1 (by decide) (by decide)
  have hlt : b.toNat &&& 207 < 256 := Nat.lt_of_le_of_lt Nat.and_le_right (by decide)
  rw [hm, show (207 : Int).toNat = 207 from rfl, u8_andNot n _ h0 h1 (by omega) (by omega), Int.toNat_natCast]
  unfold pbV pbN
  have e := clr_nat n h0 h1
  rw [hn] at e
  rw [if_neg (by decide), ← e]
theorem put_yes (n b : Int) (g0 : 0 ≤ b) (g1 : b < 256) : bits .or .u8 (pbV n b false) (bits .and .u8 b 207) = pbV n b true := by
  have hm := u8_and b 207 g0 g1 (by decide) (by decide)
  have hlt : b.toNat &&& 207 < 256 := Nat.lt_of_le_of_lt Nat.and_le_right (by decide)
  obtain ⟨q0, q1⟩ := pbV_le n b false
  rw [hm, show (207 : Int).toNat = 207 from rfl, u8_or _ _ q0 q1 (by omega) (by omega), Int.toNat_natCast, pbV_nat]
  unfold pbV pbN
  rw [if_neg (by decide), if_pos rfl]
theorem put_none (b : Int) : pbV 0 b false = 0 := by
  refine put_ext (pbV_le _ _ _).1 (by decide) fun i => ?_
  rw [pbV_nat, put_bit]
  simp
theorem pull_p (v : Int) (h0 : 0 ≤ v) (h1 : v < 256) : pbV (pbV 0 207 false) v true = clr v := byte_all (p := fun v => pbV (pbV 0 207 false) v true = clr v) (by decide +kernel) v h0 h1
theorem pull_s (v : Int) (x : Bool) (h0 : 0 ≤ v) (h1 : v < 256) : pbV (pbV 0 207 x) v x = if x then 207 else 0 := by
  cases x
  · rw [put_none, put_none]; rfl
  · exact byte_all (p := fun v => pbV (pbV 0 207 true) v true = 207) (by decide +kernel) v h0 h1
theorem push_v (v : Int) (k : Bool) (h0 : 0 ≤ v) (h1 : v < 256) : (if k then bits .or .u8 (bits .or .u8 (clr v) 32) 16 else bits .or .u8 (clr v) 32) = clr v + 32 + if k then 16 else 0 := by
  cases k
  · exact byte_all (p := fun v => bits .or .u8 (clr v) 32 = clr v + 32 + 0) (by decide +kernel) v h0 h1
  · exact byte_all (p := fun v => bits .or .u8 (bits .or .u8 (clr v) 32) 16 = clr v + 32 + 16) (by decide +kernel) v h0 h1
theorem has_pro (n b : Int) (h0 : 0 ≤ n) (h1 : n < 256) (g0 : 0 ≤ b) (g1 : b < 256) : (bits .and .u8 n (bits .and .u8 b 207) != 0) = hasV n b := by
  have hlt : b.toNat &&& 207 < 256 := Nat.lt_of_le_of_lt Nat.and_le_right (by decide)
  rw [u8_and b 207 g0 g1 (by decide) (by decide), show (207 : Int).toNat = 207 from rfl, u8_and n _ h0 h1 (by omega) (by omega), Int.toNat_natCast]
  unfold hasV
  rw [Bool.eq_iff_iff]
  simp only [bne_iff_ne, ne_eq]
  omega
end Go.Proofs.YtcgnnbgknaamdaaGreatDoor
namespace Go.Proofs.YtcgnnbgknaamdaaGreatDoor
set_option linter.unusedSimpArgs false

def cI (p : Int) : Int := oneI (hasV p 1)
theorem oneI_two (b : Bool) : 0 ≤ oneI b ∧ oneI b ≤ 1 := by cases b <;> decide
theorem cI_two (p : Int) : 0 ≤ cI p ∧ cI p ≤ 1 := oneI_two _
theorem oneI_ne (b : Bool) : (oneI b != 0) = b := by cases b <;> decide
def nzP (p v : Int) : Int := pbV (pbV p 128 (decide (128 ≤ v))) 2 (decide (v = 0))
def nzS (s : Int) (x : Bool) : Int := pbV (pbV s 128 x) 2 x
def sgn (v : Int) : Int := if v < 128 then v else v - 256
def adcV (a m c : Int) : Int := (a + m + c) % 256
def adcO (a m c : Int) : Bool := decide (sgn a + sgn m + c < -128) || decide (127 < sgn a + sgn m + c)
def adcP (p a m c : Int) : Int := nzP (pbV (pbV p 1 (decide (256 ≤ a + m + c))) 64 (adcO a m c)) (adcV a m c)
def adcS (s : Int) (x : Bool) : Int := nzS (pbV (pbV s 1 x) 64 x) x
def lessV (a m : Int) : Int := (256 + a - m) % 256
def lessP (p a m : Int) : Int := nzP (pbV p 1 (decide (m ≤ a))) (lessV a m)
def lessS (s : Int) (x : Bool) : Int := nzS (pbV s 1 x) x
def bothV (a m : Int) : Int := bits .and .u8 a m
def bitP (p a m : Int) : Int := pbV (pbV (pbV p 2 (decide (bothV a m = 0))) 128 (decide (128 ≤ m))) 64 (decide (m / 64 % 2 = 1))
def bitS (s : Int) (x y : Bool) : Int := pbV (pbV (pbV s 2 (x || y)) 128 y) 64 y
def leftV (b c : Int) : Int := (2 * b + c) % 256
def leftP (p b c : Int) : Int := nzP (pbV p 1 (decide (128 ≤ b))) (leftV b c)
def rollS (s : Int) (x y : Bool) : Int := nzS (pbV s 1 x) (x || y)
def rightV (b c : Int) : Int := (b / 2 + 128 * c) % 256
def rightP (p b c : Int) : Int := nzP (pbV p 1 (decide (b % 2 = 1))) (rightV b c)
def arrV (a m c : Int) : Int := rightV (bothV a m) c
def arrP (p a m c : Int) : Int := pbV (pbV (rightP p (bothV a m) c) 1 (decide (arrV a m c / 64 % 2 = 1))) 64 (decide (arrV a m c / 64 % 2 ≠ arrV a m c / 32 % 2))
def arrS (s : Int) (x y : Bool) : Int := pbV (pbV (rollS s x y) 1 (x || y)) 64 (x || y)
def pushV (p : Int) (k : Bool) : Int := clr p + 32 + if k then 16 else 0
def pullS (x : Bool) : Int := if x then 207 else 0

section
variable {p s a m b c v : Int} {x y : Bool}
theorem nzP_le (p v : Int) : 0 ≤ nzP p v ∧ nzP p v < 256 := pbV_le _ _ _
theorem nzS_le (s : Int) (x : Bool) : 0 ≤ nzS s x ∧ nzS s x < 256 := pbV_le _ _ _
theorem adcV_le (a m c : Int) : 0 ≤ adcV a m c ∧ adcV a m c < 256 := by unfold adcV; omega
theorem lessV_le (a m : Int) : 0 ≤ lessV a m ∧ lessV a m < 256 := by unfold lessV; omega
theorem leftV_le (b c : Int) : 0 ≤ leftV b c ∧ leftV b c < 256 := by unfold leftV; omega
theorem rightV_le (b c : Int) : 0 ≤ rightV b c ∧ rightV b c < 256 := by unfold rightV; omega
theorem bothV_le (a m : Int) (h0 : 0 ≤ a) (h1 : a < 256) (g0 : 0 ≤ m) (g1 : m < 256) : 0 ≤ bothV a m ∧ bothV a m < 256 := by
  unfold bothV
  rw [u8_and a m h0 h1 g0 g1]
  have : a.toNat &&& m.toNat ≤ a.toNat := Nat.and_le_left
  omega
theorem clr_nzP (p v : Int) : clr (nzP p v) = nzP p v := clr_put _ _ _
theorem clr_nzS (s : Int) (x : Bool) : clr (nzS s x) = nzS s x := clr_put _ _ _
/-- Bits 128 and 2 are put before, or behind: it is the same. -/
theorem nzP_put (p v : Int) (b : Int) (x : Bool) (h : (128 : Int).toNat &&& b.toNat = 0) (g : (2 : Int).toNat &&& b.toNat = 0) : pbV (nzP p v) b x = nzP (pbV p b x) v := by
  unfold nzP
  rw [put_comm _ 2 b _ _ g, put_comm _ 128 b _ _ h]
theorem nzS_put (s : Int) (y : Bool) (b : Int) (x : Bool) (h : (128 : Int).toNat &&& b.toNat = 0) (g : (2 : Int).toNat &&& b.toNat = 0) : pbV (nzS s y) b x = nzS (pbV s b x) y := by
  unfold nzS
  rw [put_comm _ 2 b _ _ g, put_comm _ 128 b _ _ h]
theorem adcP_pro : pbV (pbV (nzP p (adcV a m c)) 1 (decide (256 ≤ a + m + c))) 64 (adcO a m c) = adcP p a m c := by
  rw [nzP_put _ _ 1 _ (by decide) (by decide), nzP_put _ _ 64 _ (by decide) (by decide)]; rfl
theorem adcS_pro : pbV (pbV (nzS s x) 1 x) 64 x = adcS s x := by
  rw [nzS_put _ _ 1 _ (by decide) (by decide), nzS_put _ _ 64 _ (by decide) (by decide)]; rfl
theorem lessP_pro : pbV (nzP p (lessV a m)) 1 (decide (m ≤ a)) = lessP p a m := by rw [nzP_put _ _ 1 _ (by decide) (by decide)]; rfl
theorem lessS_pro : pbV (nzS s x) 1 x = lessS s x := by rw [nzS_put _ _ 1 _ (by decide) (by decide)]; rfl
theorem leftP_pro : pbV (nzP p (leftV b c)) 1 (decide (128 ≤ b)) = leftP p b c := by rw [nzP_put _ _ 1 _ (by decide) (by decide)]; rfl
theorem rightP_pro : pbV (nzP p (rightV b c)) 1 (decide (b % 2 = 1)) = rightP p b c := by rw [nzP_put _ _ 1 _ (by decide) (by decide)]; rfl
theorem rollS_pro : pbV (nzS s (x || y)) 1 x = rollS s x y := by rw [nzS_put _ _ 1 _ (by decide) (by decide)]; rfl

/-! ### the program's bits -/
theorem top_bit (h0 : 0 ≤ v) (h1 : v < 256) : (bitV v 7 != 0) = decide (128 ≤ v) := byte_all (p := fun v => (bitV v 7 != 0) = decide (128 ≤ v)) (by decide +kernel) v h0 h1
theorem six_bit (h0 : 0 ≤ v) (h1 : v < 256) : (bitV v 6 != 0) = decide (v / 64 % 2 = 1) := byte_all (p := fun v => (bitV v 6 != 0) = decide (v / 64 % 2 = 1)) (by decide +kernel) v h0 h1
theorem low_bit (h0 : 0 ≤ v) (h1 : v < 256) : (bitV v 0 != 0) = decide (v % 2 = 1) := byte_all (p := fun v => (bitV v 0 != 0) = decide (v % 2 = 1)) (by decide +kernel) v h0 h1
theorem two_bit (h0 : 0 ≤ v) (h1 : v < 256) : (bits .xor .u8 (bitV v 6) (bitV v 5) != 0) = decide (v / 64 % 2 ≠ v / 32 % 2) := byte_all (p := fun v => (bits .xor .u8 (bitV v 6) (bitV v 5) != 0) = decide (v / 64 % 2 ≠ v / 32 % 2)) (by decide +kernel) v h0 h1
theorem xor_255 (h0 : 0 ≤ v) (h1 : v < 256) : bits .xor .u8 v 255 = 255 - v := byte_all (p := fun v => bits .xor .u8 v 255 = 255 - v) (by decide +kernel) v h0 h1
theorem left_or (h0 : 0 ≤ b) (h1 : b < 256) (g0 : 0 ≤ c) (g1 : c ≤ 1) : bits .or .u8 (b * 2 % 256) c = leftV b c := by
  rcases (show c = 0 ∨ c = 1 by omega) with rfl | rfl
  · exact byte_all (p := fun b => bits .or .u8 (b * 2 % 256) 0 = (2 * b + 0) % 256) (by decide +kernel) b h0 h1
  · exact byte_all (p := fun b => bits .or .u8 (b * 2 % 256) 1 = (2 * b + 1) % 256) (by decide +kernel) b h0 h1
theorem right_or (h0 : 0 ≤ b) (h1 : b < 256) (g0 : 0 ≤ c) (g1 : c ≤ 1) : bits .or .u8 (b / 2) (c * 128) = rightV b c := by
  rcases (show c = 0 ∨ c = 1 by omega) with rfl | rfl
  · exact byte_all (p := fun b => bits .or .u8 (b / 2) (0 * 128) = (b / 2 + 128 * 0) % 256) (by decide +kernel) b h0 h1
  · exact byte_all (p := fun b => bits .or .u8 (b / 2) (1 * 128) = (b / 2 + 128 * 1) % 256) (by decide +kernel) b h0 h1
theorem tb7 (h0 : 0 ≤ v) (h1 : v < 256) : v.toNat.testBit 7 = decide (128 ≤ v) := byte_all (p := fun v => v.toNat.testBit 7 = decide (128 ≤ v)) (by decide +kernel) v h0 h1
theorem xor_le (a b : Int) (h0 : 0 ≤ a) (h1 : a < 256) (g0 : 0 ≤ b) (g1 : b < 256) : 0 ≤ bits .xor .u8 a b ∧ bits .xor .u8 a b < 256 := by
  rw [u8_xor a b h0 h1 g0 g1]
  have : a.toNat ^^^ b.toNat < 2 ^ 8 := Nat.xor_lt_two_pow (by omega) (by omega)
  omega
theorem ovf_bit (h0 : 0 ≤ a) (h1 : a < 256) (g0 : 0 ≤ m) (g1 : m < 256) (c0 : 0 ≤ c) (c1 : c ≤ 1) : (bitV (bits .and .u8 (bits .xor .u8 a (adcV a m c)) (bits .xor .u8 m (adcV a m c))) 7 != 0) = adcO a m c := by
  obtain ⟨v0, v1⟩ := adcV_le a m c
  obtain ⟨x0, x1⟩ := xor_le a _ h0 h1 v0 v1
  obtain ⟨y0, y1⟩ := xor_le m _ g0 g1 v0 v1
  obtain ⟨z0, z1⟩ := bothV_le _ _ x0 x1 y0 y1
  unfold bothV at z0 z1
  rw [top_bit z0 z1, ← tb7 z0 z1, u8_and _ _ x0 x1 y0 y1, Int.toNat_natCast, Nat.testBit_and, u8_xor _ _ h0 h1 v0 v1, u8_xor _ _ g0 g1 v0 v1, Int.toNat_natCast, Int.toNat_natCast, Nat.testBit_xor, Nat.testBit_xor, tb7 h0 h1, tb7 g0 g1, tb7 v0 v1]
  have hv : adcV a m c = a + m + c ∨ adcV a m c = a + m + c - 256 := by unfold adcV; omega
  unfold adcO sgn
  generalize adcV a m c = v at *
  have f : ∀ x : Int, decide (128 ≤ x) = !decide (x < 128) := fun x => by
    by_cases h : x < 128
    · rw [decide_eq_true h, decide_eq_false (by omega)]; rfl
    · rw [decide_eq_false h, decide_eq_true (by omega)]; rfl
  rw [f a, f m, f v]
  by_cases e1 : a < 128 <;> by_cases e2 : m < 128 <;> by_cases e3 : v < 128
  all_goals
    simp only [e1, e2, e3, if_true, if_false, decide_true, decide_false, Bool.not_true, Bool.not_false, Bool.xor_self, Bool.false_and, Bool.and_false, Bool.and_true, Bool.xor_false, Bool.xor_true]
    rw [eq_comm]
    simp only [Bool.or_eq_true, Bool.or_eq_false_iff, decide_eq_true_eq, decide_eq_false_iff_not]
    omega

theorem car_bit (n : Int) (h : 0 ≤ n) : (n / 256 != 0) = decide (256 ≤ n) := by
  rw [Bool.eq_iff_iff]
  simp
  omega

/-! ### back again -/
end
end Go.Proofs.YtcgnnbgknaamdaaGreatDoor
namespace Go.Proofs.YtcgnnbgknaamdaaGreatDoor
open Go.RowKit Go.Sort

/-- Of the blocks below n only those of X may have turned since w0; the blocks that l lists (number, cells) hold just these; they are new, or of X, and no two are one. -/
structure Mem (n : Nat) (X : List Nat) (w0 w : World) (l : List (Nat × Array Value)) : Prop where
  os : w.os = w0.os
  tape : w.tape = w0.tape
  output : w.output = w0.output
  size : w0.heap.size ≤ w.heap.size
  base : n ≤ w0.heap.size
  block : ∀ k, k < n → k ∉ X → w.heap[k]? = w0.heap[k]?
  row : ∀ x ∈ l, ∃ T, w.heap[x.1]? = some (.cells x.2 T)
  mine : ∀ x ∈ l, n ≤ x.1 ∨ x.1 ∈ X
  nodup : (l.map (·.1)).Nodup

section
variable {n : Nat} {X : List Nat} {w0 w w' : World} {l : List (Nat × Array Value)} {R : Nat} {cs : Array Value}
theorem Mem.start (w : World) : Mem w.heap.size [] w w [] :=
  ⟨rfl, rfl, rfl, Nat.le_refl _, Nat.le_refl _, fun _ _ _ => rfl, fun _ h => (by cases h), fun _ h => (by cases h), List.nodup_nil⟩
theorem Mem.begin {T : TypeId} (h : w.heap[R]? = some (.cells cs T)) : Mem w.heap.size [R] w w [(R, cs)] :=
  ⟨rfl, rfl, rfl, Nat.le_refl _, Nat.le_refl _, fun _ _ _ => rfl, fun x hx => by simp at hx; subst hx; exact ⟨T, h⟩, fun x hx => by simp at hx; subst hx; exact .inr (by simp), by simp⟩
theorem Mem.toBelow (h : Mem n [] w0 w l) : Below n w0 w := ⟨h.os, h.tape, h.output, h.size, fun k hk => h.block k hk (by simp)⟩
theorem Mem.lt (h : Mem n X w0 w l) {x : Nat × Array Value} (hx : x ∈ l) : x.1 < w.heap.size := by
  obtain ⟨T, e⟩ := h.row x hx
  exact (Array.getElem?_eq_some_iff.1 e).1
theorem Mem.next (h : Mem n X w0 w l) (hb : Below w.heap.size w w') : Mem n X w0 w' l :=
  ⟨hb.os.trans h.os, hb.tape.trans h.tape, hb.output.trans h.output, Nat.le_trans h.size hb.size, h.base,
   fun k hk hX => (hb.block k (Nat.lt_of_lt_of_le hk (Nat.le_trans h.base h.size))).trans (h.block k hk hX),
   fun x hx => by obtain ⟨T, e⟩ := h.row x hx; exact ⟨T, (hb.block _ (h.lt hx)).trans e⟩, h.mine, h.nodup⟩
theorem Mem.sub (h : Mem n X w0 w l) {l' : List (Nat × Array Value)} (hs : l'.Sublist l) : Mem n X w0 w l' :=
  ⟨h.os, h.tape, h.output, h.size, h.base, h.block, fun x hx => h.row x (hs.subset hx), fun x hx => h.mine x (hs.subset hx), (hs.map _).nodup h.nodup⟩
theorem Mem.new (h : Mem n X w0 w l) (cs : Array Value) (T : TypeId) : Mem n X w0 (w.alloc (.cells cs T)) ((w.heap.size, cs) :: l) := by
  have hh := h.next (Below.alloc (Below.refl _ _) (Nat.le_refl _) (.cells cs T))
  refine ⟨hh.os, hh.tape, hh.output, hh.size, hh.base, hh.block, fun x hx => ?_, fun x hx => ?_, ?_⟩
  · rcases List.mem_cons.1 hx with rfl | hx
    · exact ⟨T, heap_alloc_new w _⟩
    · exact hh.row x hx
  · rcases List.mem_cons.1 hx with rfl | hx
    · exact .inl (Nat.le_trans h.base h.size)
    · exact hh.mine x hx
  · simp only [List.map_cons, List.nodup_cons]
    refine ⟨fun hm => ?_, h.nodup⟩
    obtain ⟨x, hx, e⟩ := List.mem_map.1 hm
    have := h.lt hx
    omega
theorem Mem.add (h : Mem n X w0 w l) (hb : Below w.heap.size w w') {b : Nat} {T : TypeId} (hB : w.heap.size ≤ b) (hO : w'.heap[b]? = some (.cells cs T)) : Mem n X w0 w' ((b, cs) :: l) := by
  have hh := h.next hb
  refine ⟨hh.os, hh.tape, hh.output, hh.size, hh.base, hh.block, fun x hx => ?_, fun x hx => ?_, ?_⟩
  · rcases List.mem_cons.1 hx with rfl | hx
    · exact ⟨T, hO⟩
    · exact hh.row x hx
  · rcases List.mem_cons.1 hx with rfl | hx
    · exact .inl (Nat.le_trans (Nat.le_trans h.base h.size) hB)
    · exact hh.mine x hx
  · simp only [List.map_cons, List.nodup_cons]
    refine ⟨fun hm => ?_, h.nodup⟩
    obtain ⟨x, hx, e⟩ := List.mem_map.1 hm
    have := h.lt hx
    omega
/-- One listed block has turned, by itself. -/
theorem Mem.turn (h : Mem n X w0 w l) {i : Nat} (hi : l[i]? = some (R, cs)) {cs' : Array Value} (h1 : w'.os = w.os) (h2 : w'.tape = w.tape) (h3 : w'.output = w.output) (h4 : w.heap.size ≤ w'.heap.size)
    (hR : ∃ T, w'.heap[R]? = some (.cells cs' T)) (ho : ∀ k, k < w.heap.size → k ≠ R → w'.heap[k]? = w.heap[k]?) : Mem n X w0 w' (l.set i (R, cs')) := by
  have hil : i < l.length := (List.getElem?_eq_some_iff.1 hi).1
  have hie : l[i] = (R, cs) := (List.getElem?_eq_some_iff.1 hi).2
  have hRm : (R, cs) ∈ l := List.mem_of_getElem? hi
  have hmap : (l.set i (R, cs')).map (·.1) = l.map (·.1) := by
    rw [List.map_set]
    apply List.ext_getElem?
    intro k
    rw [List.getElem?_set]
    split
    · rename_i hk
      subst hk
      simp [hie, hil]
    · rfl
  refine ⟨h1.trans h.os, h2.trans h.tape, h3.trans h.output, Nat.le_trans h.size h4, h.base, fun k hk hX => ?_, fun x hx => ?_, fun x hx => ?_, by rw [hmap]; exact h.nodup⟩
  · have hk2 : k ≠ R := fun e => by
      subst e
      rcases h.mine _ hRm with h | h
      · exact absurd hk (by simp at h; omega)
      · exact hX h
    rw [ho k (Nat.lt_of_lt_of_le hk (Nat.le_trans h.base h.size)) hk2]
    exact h.block k hk hX
  · obtain ⟨j, hj⟩ := List.getElem?_of_mem hx
    rw [List.getElem?_set] at hj
    split at hj
    · rename_i hij
      have := Option.some.inj hj
      subst this
      exact hR
    · rename_i hij
      have hxl : x ∈ l := List.mem_of_getElem? hj
      have hne : x.1 ≠ R := fun e => by
        have hj1 : (l.map (·.1))[j]? = some R := by rw [List.getElem?_map, hj]; simp [e]
        have hi1 : (l.map (·.1))[i]? = some R := by rw [List.getElem?_map, hi]; simp
        have hl1 : i < (l.map (·.1)).length := by simpa using hil
        exact hij ((List.getElem?_inj hl1 h.nodup).1 (hi1.trans hj1.symm))
      obtain ⟨T, e⟩ := h.row x hxl
      exact ⟨T, (ho _ (h.lt hxl) hne).trans e⟩
  · have hx1 : x.1 ∈ (l.set i (R, cs')).map (·.1) := List.mem_map.2 ⟨x, hx, rfl⟩
    rw [hmap] at hx1
    obtain ⟨y, hy, e⟩ := List.mem_map.1 hx1
    rw [← e]
    exact h.mine y hy
theorem Mem.setRow (h : Mem n X w0 w l) {i : Nat} (hi : l[i]? = some (R, cs)) (cs' : Array Value) : Mem n X w0 (w.setRow R cs') (l.set i (R, cs')) := by
  obtain ⟨T, e⟩ := h.row _ (List.mem_of_getElem? hi)
  exact h.turn hi rfl rfl rfl (by simp) ⟨T, setRow_heap w R _ cs' T _ e⟩ (fun k _ hk => setRow_other w R k cs' hk)
/-- A callee that may turn one listed block. -/
theorem Mem.call (h : Mem n X w0 w l) {i : Nat} (hi : l[i]? = some (R, cs)) {cs' : Array Value} (hc : Mem w.heap.size [R] w w' [(R, cs')]) : Mem n X w0 w' (l.set i (R, cs')) :=
  h.turn hi hc.os hc.tape hc.output hc.size (hc.row (R, cs') (by simp)) (fun k hk hne => hc.block k hk (by simpa using hne))
theorem Mem.get (h : Mem n X w0 w l) {i : Nat} (hi : l[i]? = some (R, cs)) : ∃ T, w.heap[R]? = some (.cells cs T) := h.row _ (List.mem_of_getElem? hi)
theorem Mem.cell (h : Mem n X w0 w l) {i : Nat} (hi : l[i]? = some (R, cs)) {j : Nat} {v : Value} (hj : cs[j]? = some v) : w.cell? ⟨R, j, none⟩ = some v := by
  obtain ⟨T, e⟩ := h.get hi
  rw [cell_of_row w R j cs T _ e, hj]
end

theorem addr_add (R off i : Nat) : (⟨R, off, none⟩ : Addr).add i = ⟨R, off + i, none⟩ := by unfold Addr.add; split <;> simp_all

/-- Is it a struct, or an array? -/
def aggB : TypeDesc → Bool
  | .struct _ | .array _ _ => true
  | _ => false
/-- What stands from place k on is written over. -/
def splice (cur : List Value) (k : Nat) (vs : List Value) : List Value := cur.take k ++ vs ++ cur.drop (k + vs.length)

section
variable {P : Program}
theorem run_storeCells_part (g off : Nat) (t : TypeId) : ∀ (vs : List Value) (i : Nat) (cur : Array Value) (w : World), w.heap[g]? = some (.cells cur t (0, 0)) → off + i + vs.length ≤ cur.size → (∀ v ∈ vs, v.oneCell' = true) →
    (storeCells ⟨g, off, none⟩ vs i).run P w = .ok () (w.setRow g (splice cur.toList (off + i) vs).toArray)
  | [], i, cur, w, hg, hl, _ => by
    have e : (splice cur.toList (off + i) []).toArray = cur := by simp [splice]
    rw [e, setRow_self w g cur t _ hg]
    rfl
  | v :: rest, i, cur, w, hg, hl, h1 => by
    have hi : off + i < cur.size := by simp at hl; omega
    have hcell : w.cell? ⟨g, off + i, none⟩ = some cur[off + i] := by simp [World.cell?, hg, hi]
    have hfro : w.frozen? ⟨g, off + i, none⟩ = false := by simp [World.frozen?, hg]
    have hst : (store ((⟨g, off, none⟩ : Addr).add i) v).run P w = .ok () (w.setRow g (cur.setIfInBounds (off + i) v)) := by
      rw [addr_add, run_store P w _ v _ (h1 v (by simp)), hcell]
      simp [hfro, setCell_eq_setRow w g (off + i) cur t (0, 0) v hg]
    have ih := run_storeCells_part g off t rest (i + 1) (cur.setIfInBounds (off + i) v) (w.setRow g (cur.setIfInBounds (off + i) v)) (setRow_heap w g cur _ t _ hg) (by simp at hl ⊢; omega) (fun x hx => h1 x (by simp [hx]))
    simp only [storeCells, Sem.run_bind, hst, Result.andThen_ok, ih, setRow_setRow]
    congr 3
    unfold splice
    apply List.ext_getElem?
    intro k
    simp only [Array.toList_setIfInBounds, List.getElem?_append, List.length_take, List.length_set, Array.length_toList, List.getElem?_take, List.getElem?_set, List.getElem?_drop, List.length_append, List.length_cons]
    by_cases hk : k < off + i
    · simp [hk, show k < off + (i + 1) by omega, show off + i ≠ k by omega, show k < min (off + i) cur.size by omega, show k < min (off + (i + 1)) cur.size by omega, show k < min (off + i) cur.size + (rest.length + 1) by omega, show k < min (off + (i + 1)) cur.size + rest.length by omega]
    · by_cases hk2 : k = off + i
      · subst hk2
        simp [hi, show min (off + i) cur.size = off + i by omega, show min (off + (i + 1)) cur.size = off + (i + 1) by omega, show off + i < off + (i + 1) by omega]
        omega
      · have e1 : min (off + i) cur.size = off + i := by omega
        have e2 : min (off + (i + 1)) cur.size = off + (i + 1) := by simp at hl; omega
        simp only [e1, e2]
        by_cases hk3 : k < off + i + (rest.length + 1)
        · rw [if_pos (by omega), if_neg (by omega), if_pos (by omega), if_neg (by omega), show k - (off + i) = (k - (off + (i + 1))) + 1 by omega]
          simp
        · rw [if_neg (by omega), if_neg (by omega), if_neg (by omega)]
          congr 1
          omega
theorem run_storeVar_part (w : World) (g off : Nat) (t ty : TypeId) (old : Array Value) (v : Value) (hg : w.heap[g]? = some (.cells old t (0, 0))) (hi : (P.info? ty).map (·.size) = some v.cells.size)
    (ho : off + v.cells.size ≤ old.size) (h1 : v.cells.all (·.oneCell') = true) :
    (storeVar ty ⟨g, off, none⟩ v).run P w = .ok () (w.setRow g (splice old.toList off v.cells.toList).toArray) := by
  have := run_storeCells_part (P := P) g off t v.cells.toList 0 old w hg (by simp; omega) (fun x hx => (Array.all_eq_true_iff_forall_mem.1 h1) x (by simpa using hx))
  cases hq : P.info? ty with
  | none => simp [hq] at hi
  | some i =>
    have hs : i.size = v.cells.size := by simpa [hq] using hi
    simp only [Nat.add_zero] at this
    simp [storeVar, sizeOf, typeInfo, hq, hs, this]
theorem run_loadVar_part (w : World) (g off : Nat) (t ty : TypeId) (cs sub : Array Value) (hg : w.heap[g]? = some (.cells cs t (0, 0)))
    (hu' : (P.underlying ty).map aggB = some true) (hi : (P.info? ty).map (·.size) = some sub.size) (hs : ∀ j v, sub[j]? = some v → cs[off + j]? = some v) :
    (loadVar ty ⟨g, off, none⟩).run P w = .ok (.agg sub) w := by
  obtain ⟨d, hu, hd⟩ : ∃ d, P.underlying ty = some d ∧ aggB d = true := by simpa using hu'
  have hl : (loadCells ⟨g, off, none⟩ sub.toList.length).run P w = .ok sub.toList.toArray w :=
    run_loadCells_list (P := P) w ⟨g, off, none⟩ sub.toList (fun j v hv => by
      rw [addr_add, cell_of_row w g _ cs t _ hg]
      exact hs j v (by simpa using hv))
  cases hq : P.info? ty with
  | none => simp [hq] at hi
  | some i =>
    have hs : i.size = sub.size := by simpa [hq] using hi
    have hagg : (isAgg ty).run P w = .ok true w := by
      unfold isAgg
      rw [Sem.run_bind, run_underlying hu w]
      cases d <;> simp_all [aggB]
    simp only [Array.length_toList, Array.toArray_toList] at hl
    simp [loadVar, Sem.run_bind, hagg, sizeOf, typeInfo, hq, hs, hl]
theorem run_loadVar_one (w : World) (g off : Nat) (t ty : TypeId) (cs : Array Value) (v : Value) (hg : w.heap[g]? = some (.cells cs t (0, 0)))
    (hu' : (P.underlying ty).map aggB = some false) (hs : cs[off]? = some v) :
    (loadVar ty ⟨g, off, none⟩).run P w = .ok v w := by
  obtain ⟨d, hu, hd⟩ : ∃ d, P.underlying ty = some d ∧ aggB d = false := by simpa using hu'
  have hagg : (isAgg ty).run P w = .ok false w := by
    unfold isAgg
    rw [Sem.run_bind, run_underlying hu w]
    cases d <;> simp_all [aggB]
  have hc : w.cell? ⟨g, off, none⟩ = some v := by rw [cell_of_row w g off cs t _ hg, hs]
  simp [loadVar, Sem.run_bind, hagg, hc]

variable {ops : Array Oper} {rest : List Oper} {o : Oper} {a : Act} {w : World} {Q : Exit → Act → World → Prop} {n : Nat} {X : List Nat} {w0 : World} {l : List (Nat × Array Value)}
theorem wpList_want' (hw : Region.wanted o (yielded ops a.tmps) = true) (h : ∀ K : Act → World → Prop, (∀ a w, wpList P ops Q rest a w → K a w) → o.wp P a w K Q) : wpList P ops Q (o :: rest) a w :=
  wpList_step fun K hK => by rw [if_pos hw]; exact h K hK
/-- A variable is boxed. -/
theorem wpList_mbox (hgd : Region.wanted o (yielded ops a.tmps) = true) (T : TypeId) (x : Operand) (ho : o.op = .box T x) (H : Mem n X w0 w l) (cs : Array Value) (hx : (a.eval x).cells = cs)
    (h : ∀ R w1, w.heap.size ≤ R → Mem n X w0 w1 ((R, cs) :: l) → wpList P ops Q rest (a.put o.dst (.pointer (some ⟨R, 0, none⟩))) w1) : wpList P ops Q (o :: rest) a w :=
  wpList_want' hgd fun _ hK => by
    unfold Oper.wp execOp
    have hrun : (Instr.box T (a.eval x)).run P w = .ok (.pointer (some ⟨w.heap.size, 0, none⟩)) (w.alloc (.cells cs T)) := by
      subst hx
      rfl
    simp only [ho, Sem.run_bind, hrun, Result.andThen_ok, Sem.run_pure]
    exact hK _ _ (h _ _ (Nat.le_refl _) (H.new cs T))
/-- A struct that came by value is boxed. -/
theorem wpList_mboxA (hgd : Region.wanted o (yielded ops a.tmps) = true) (T : TypeId) (x : Operand) (ho : o.op = .box T x) (H : Mem n X w0 w l) (cs : Array Value) (hx : a.eval x = .agg cs)
    (h : ∀ R w1, w.heap.size ≤ R → Mem n X w0 w1 ((R, cs) :: l) → wpList P ops Q rest (a.put o.dst (.pointer (some ⟨R, 0, none⟩))) w1) : wpList P ops Q (o :: rest) a w :=
  wpList_mbox hgd T x ho H cs (by rw [hx]; rfl) h
/-- A variable is made, of zeros. -/
theorem wpList_mnew (hgd : Region.wanted o (yielded ops a.tmps) = true) (T : TypeId) (ho : o.op = .alloc T) (H : Mem n X w0 w l) (cs : Array Value)
    (hz : ∀ w : World, (Instr.alloc T true (.tuple #[])).run P w = .ok (.pointer (some ⟨w.heap.size, 0, none⟩)) (w.alloc (.cells cs T)))
    (h : ∀ R w1, w.heap.size ≤ R → Mem n X w0 w1 ((R, cs) :: l) → wpList P ops Q rest (a.put o.dst (.pointer (some ⟨R, 0, none⟩))) w1) : wpList P ops Q (o :: rest) a w :=
  wpList_want' hgd fun _ hK => by
    unfold Oper.wp execOp
    simp only [ho, Sem.run_bind, hz, Result.andThen_ok, Sem.run_pure]
    exact hK _ _ (h _ _ (Nat.le_refl _) (H.new cs T))
/-- A struct, or a part of one, is read. -/
theorem wpList_mload (hgd : Region.wanted o (yielded ops a.tmps) = true) (ty : TypeId) (x : Operand) (ho : o.op = .load ty x) (R off : Nat) (hx : a.eval x = .pointer (some ⟨R, off, none⟩)) (i : Nat) (H : Mem n X w0 w l) (cs sub : Array Value) (hi : l[i]? = some (R, cs))
    (hu : (P.underlying ty).map aggB = some true) (hz : (P.info? ty).map (·.size) = some sub.size) (hs : ∀ j v, sub[j]? = some v → cs[off + j]? = some v)
    (h : wpList P ops Q rest (a.put o.dst (.agg sub)) w) : wpList P ops Q (o :: rest) a w :=
  wpList_want' hgd fun _ hK => by
    obtain ⟨t, hg⟩ := H.get hi
    unfold Oper.wp execOp
    simp only [ho, hx, Instr.loadAt, Instr.sureAddr, Sem.run_bind, Sem.run_pure, Result.andThen_ok, run_loadVar_part w R off t ty cs sub hg hu hz hs]
    exact hK _ _ h
/-- A single cell is read. -/
theorem wpList_mload1 (hgd : Region.wanted o (yielded ops a.tmps) = true) (ty : TypeId) (x : Operand) (ho : o.op = .load ty x) (R off : Nat) (hx : a.eval x = .pointer (some ⟨R, off, none⟩)) (i : Nat) (H : Mem n X w0 w l) (cs : Array Value) (v : Value) (hi : l[i]? = some (R, cs)) (hs : cs[off]? = some v)
    (hu : (P.underlying ty).map aggB = some false)
    (h : wpList P ops Q rest (a.put o.dst v) w) : wpList P ops Q (o :: rest) a w :=
  wpList_want' hgd fun _ hK => by
    obtain ⟨t, hg⟩ := H.get hi
    unfold Oper.wp execOp
    simp only [ho, hx, Instr.loadAt, Instr.sureAddr, Sem.run_bind, Sem.run_pure, Result.andThen_ok, run_loadVar_one w R off t ty cs v hg hu hs]
    exact hK _ _ h
/-- A value is written, from place off on. -/
theorem wpList_mstore (hgd : Region.wanted o (yielded ops a.tmps) = true) (ty : TypeId) (x y : Operand) (ho : o.op = .store ty x y) (hdst : o.dst = none) (R off : Nat) (hx : a.eval x = .pointer (some ⟨R, off, none⟩)) (i : Nat) (H : Mem n X w0 w l) (cs cs' : Array Value) (hi : l[i]? = some (R, cs)) (v : Value) (hy : a.eval y = v)
    (hz : (P.info? ty).map (·.size) = some v.cells.size) (hl : off + v.cells.size ≤ cs.size) (h1 : v.cells.all (·.oneCell') = true) (hc : (splice cs.toList off v.cells.toList).toArray = cs')
    (h : ∀ w1, Mem n X w0 w1 (l.set i (R, cs')) → wpList P ops Q rest a w1) : wpList P ops Q (o :: rest) a w :=
  wpList_want' hgd fun _ hK => by
    obtain ⟨t, hg⟩ := H.get hi
    unfold Oper.wp execOp
    simp only [ho, hx, hy, Instr.storeAt, Instr.sureAddr, Sem.run_bind, Sem.run_pure, Result.andThen_ok, run_storeVar_part w R off t ty cs v hg hz hl h1]
    have := h _ (H.setRow hi cs')
    subst hc
    refine hK _ _ ?_
    rw [hdst]
    exact this
/-- A struct is written whole. -/
theorem wpList_mstoreA (hgd : Region.wanted o (yielded ops a.tmps) = true) (ty : TypeId) (x y : Operand) (ho : o.op = .store ty x y) (hdst : o.dst = none) (R : Nat) (hx : a.eval x = .pointer (some ⟨R, 0, none⟩)) (i : Nat) (H : Mem n X w0 w l) (cs cs' : Array Value) (hi : l[i]? = some (R, cs)) (hy : a.eval y = .agg cs')
    (hz : (P.info? ty).map (·.size) = some cs'.size) (hl : cs'.size = cs.size) (h1 : cs'.all (·.oneCell') = true)
    (h : ∀ w1, Mem n X w0 w1 (l.set i (R, cs')) → wpList P ops Q rest a w1) : wpList P ops Q (o :: rest) a w :=
  wpList_mstore hgd ty x y ho hdst R 0 hx i H cs cs' hi (.agg cs') hy hz (by show 0 + cs'.size ≤ _; omega) h1 (by
    have e : (Value.agg cs').cells.toList = cs'.toList := rfl
    have e2 : cs.toList.drop (0 + cs'.toList.length) = [] := List.drop_of_length_le (by simp; omega)
    unfold splice
    rw [e, e2]
    simp) h
/-- A struct is read whole. -/
theorem wpList_mloadA (hgd : Region.wanted o (yielded ops a.tmps) = true) (ty : TypeId) (x : Operand) (ho : o.op = .load ty x) (R : Nat) (hx : a.eval x = .pointer (some ⟨R, 0, none⟩)) (i : Nat) (H : Mem n X w0 w l) (cs : Array Value) (hi : l[i]? = some (R, cs))
    (hu : (P.underlying ty).map aggB = some true) (hz : (P.info? ty).map (·.size) = some cs.size)
    (h : wpList P ops Q rest (a.put o.dst (.agg cs)) w) : wpList P ops Q (o :: rest) a w :=
  wpList_mload hgd ty x ho R 0 hx i H cs cs hi hu hz (fun j v hj => by rw [Nat.zero_add]; exact hj) h
/-- What comes back is a struct that lies in a block. -/
theorem ret_mem1 {fn : Func} {Rr : Ending → World → Prop} {p : Tmp} {ty : TypeId} (hf : fn.results = #[.cell p ty]) (R : Nat) (hp : a.tmps.getD p undef = .pointer (some ⟨R, 0, none⟩)) (i : Nat) (H : Mem n X w0 w l) (cs : Array Value) (hi : l[i]? = some (R, cs))
    (hu : (P.underlying ty).map aggB = some true) (hz : (P.info? ty).map (·.size) = some cs.size) (hd : a.defers = []) (h : Rr (.returned (.agg cs)) w) : bodyPost P fn Rr .ret a w := by
  obtain ⟨t, hg⟩ := H.get hi
  refine bodyPost_ret ?_ hd h
  have hl := run_loadVar_part (P := P) w R 0 t ty cs cs hg hu hz (fun j v hj => by rw [Nat.zero_add]; exact hj)
  have hp' : a.tmps[p]?.getD undef = .pointer (some ⟨R, 0, none⟩) := by simpa using hp
  simp [results, hf, hp', asAddr, hl]
/-- The same, and a second result. -/
theorem ret_mem2 {fn : Func} {Rr : Ending → World → Prop} {p q : Tmp} {ty : TypeId} (hf : fn.results = #[.cell p ty, .tmp q]) (R : Nat) (hp : a.tmps.getD p undef = .pointer (some ⟨R, 0, none⟩)) (i : Nat) (H : Mem n X w0 w l) (cs : Array Value) (hi : l[i]? = some (R, cs))
    (hu : (P.underlying ty).map aggB = some true) (hz : (P.info? ty).map (·.size) = some cs.size) (hd : a.defers = []) (v : Value) (hq : a.tmps.getD q undef = v) (h : Rr (.returned (.tuple #[.agg cs, v])) w) : bodyPost P fn Rr .ret a w := by
  obtain ⟨t, hg⟩ := H.get hi
  refine bodyPost_ret ?_ hd h
  have hl := run_loadVar_part (P := P) w R 0 t ty cs cs hg hu hz (fun j v hj => by rw [Nat.zero_add]; exact hj)
  have hp' : a.tmps[p]?.getD undef = .pointer (some ⟨R, 0, none⟩) := by simpa using hp
  have hq' : a.tmps[q]?.getD undef = v := by simpa using hq
  simp [results, hf, hp', hq', asAddr, hl]
/-- The same where the order is open and the operations before, and beside, only read. -/
theorem quiet_mload1 {K : Act → Prop} (ty : TypeId) (x : Operand) (ho : o.op = .load ty x) (R off : Nat) (hx : a.eval x = .pointer (some ⟨R, off, none⟩)) (i : Nat) (H : Mem n X w0 w l) (cs : Array Value) (v : Value) (hi : l[i]? = some (R, cs)) (hs : cs[off]? = some v)
    (hu : (P.underlying ty).map aggB = some false) (h : K (a.put o.dst v)) : o.quiet P a (fun w' => ∃ p : Regrown, w' = Go.Sort.grow (redrawn w p.d) p.os) K :=
  ⟨v, fun w' hw' => by
    obtain ⟨p, rfl⟩ := hw'
    obtain ⟨t, hg⟩ := (H.next (below_regrown w p.d p.os)).get hi
    unfold Oper.quietAt execOp
    simp only [ho, hx, Instr.loadAt, Instr.sureAddr, Sem.run_bind, Sem.run_pure, Result.andThen_ok, run_loadVar_one _ R off t ty cs v hg hu hs]
    exact ⟨rfl, rfl⟩, h⟩
theorem quiet_mload {K : Act → Prop} (ty : TypeId) (x : Operand) (ho : o.op = .load ty x) (R off : Nat) (hx : a.eval x = .pointer (some ⟨R, off, none⟩)) (i : Nat) (H : Mem n X w0 w l) (cs sub : Array Value) (hi : l[i]? = some (R, cs))
    (hu : (P.underlying ty).map aggB = some true) (hz : (P.info? ty).map (·.size) = some sub.size) (hs : ∀ j v, sub[j]? = some v → cs[off + j]? = some v) (h : K (a.put o.dst (.agg sub))) : o.quiet P a (fun w' => ∃ p : Regrown, w' = Go.Sort.grow (redrawn w p.d) p.os) K :=
  ⟨_, fun w' hw' => by
    obtain ⟨p, rfl⟩ := hw'
    obtain ⟨t, hg⟩ := (H.next (below_regrown w p.d p.os)).get hi
    unfold Oper.quietAt execOp
    simp only [ho, hx, Instr.loadAt, Instr.sureAddr, Sem.run_bind, Sem.run_pure, Result.andThen_ok, run_loadVar_part _ R off t ty cs sub hg hu hz hs]
    exact ⟨rfl, rfl⟩, h⟩
theorem quiet_mloadA {K : Act → Prop} (ty : TypeId) (x : Operand) (ho : o.op = .load ty x) (R : Nat) (hx : a.eval x = .pointer (some ⟨R, 0, none⟩)) (i : Nat) (H : Mem n X w0 w l) (cs : Array Value) (hi : l[i]? = some (R, cs))
    (hu : (P.underlying ty).map aggB = some true) (hz : (P.info? ty).map (·.size) = some cs.size) (h : K (a.put o.dst (.agg cs))) : o.quiet P a (fun w' => ∃ p : Regrown, w' = Go.Sort.grow (redrawn w p.d) p.os) K :=
  quiet_mload ty x ho R 0 hx i H cs cs hi hu hz (fun j v hj => by rw [Nat.zero_add]; exact hj) h
/-- Only at a load, only at a store. -/
theorem gate_load (ty : TypeId) (x : Operand) (_ : o.op = .load ty x) (h : wpList P ops Q (o :: rest) a w) : wpList P ops Q (o :: rest) a w := h
theorem gate_store (ty : TypeId) (x y : Operand) (_ : o.op = .store ty x y) (h : wpList P ops Q (o :: rest) a w) : wpList P ops Q (o :: rest) a w := h
theorem gate_qload {C : World → Prop} {K : Act → Prop} (ty : TypeId) (x : Operand) (_ : o.op = .load ty x) (h : o.quiet P a C K) : o.quiet P a C K := h
end
end Go.Proofs.YtcgnnbgknaamdaaGreatDoor
namespace Go.Proofs.YtcgnnbgknaamdaaGreatDoor
open Go.RowKit
set_option linter.unusedSimpArgs false
set_option linter.unusedVariables false
set_option maxRecDepth 20000

/-- Three letters of a text, from a place on; name number n of names of three letters and a space. -/
def cut3 (s : ByteArray) (i : Nat) : ByteArray := s.extract i (i + 3)
/-- Is a name one of those that stand at k and behind, four octets each? -/
def isInK (l s : ByteArray) : Nat → Bool
  | 0 => false
  | k + 1 => isInK l s k || (cut3 l (4 * k)).toList == s.toList
def isIn (l s : ByteArray) : Bool := isInK l s (l.size / 4)
end Go.Proofs.YtcgnnbgknaamdaaGreatDoor
namespace Go.Proofs.YtcgnnbgknaamdaaGreatDoor
open Go.RowKit
set_option linter.unusedSimpArgs false
set_option linter.unusedVariables false
set_option maxRecDepth 20000

def zeroV (a b : Int) : ByteArray := if b = 0 then cut3 ⟨#[66, 82, 75, 32, 74, 83, 82, 32, 82, 84, 73, 32, 82, 84, 83, 32, 78, 79, 80, 32, 76, 68, 89, 32, 67, 80, 89, 32, 67, 80, 88, 32]⟩ (4 * a.toNat) else if b = 2 then cut3 ⟨#[80, 72, 80, 32, 80, 76, 80, 32, 80, 72, 65, 32, 80, 76, 65, 32, 68, 69, 89, 32, 84, 65, 89, 32, 73, 78, 89, 32, 73, 78, 88, 32]⟩ (4 * a.toNat) else if b = 4 then cut3 ⟨#[66, 80, 76, 32, 66, 77, 73, 32, 66, 86, 67, 32, 66, 86, 83, 32, 66, 67, 67, 32, 66, 67, 83, 32, 66, 78, 69, 32, 66, 69, 81, 32]⟩ (4 * a.toNat) else if b = 6 then cut3 ⟨#[67, 76, 67, 32, 83, 69, 67, 32, 67, 76, 73, 32, 83, 69, 73, 32, 84, 89, 65, 32, 67, 76, 86, 32, 67, 76, 68, 32, 83, 69, 68, 32]⟩ (4 * a.toNat) else if b = 1 then cut3 ⟨#[78, 79, 80, 32, 66, 73, 84, 32, 78, 79, 80, 32, 78, 79, 80, 32, 83, 84, 89, 32, 76, 68, 89, 32, 67, 80, 89, 32, 67, 80, 88, 32]⟩ (4 * a.toNat) else if b = 3 then cut3 ⟨#[78, 79, 80, 32, 66, 73, 84, 32, 74, 77, 80, 32, 74, 77, 80, 32, 83, 84, 89, 32, 76, 68, 89, 32, 67, 80, 89, 32, 67, 80, 88, 32]⟩ (4 * a.toNat) else if b = 5 then cut3 ⟨#[78, 79, 80, 32, 78, 79, 80, 32, 78, 79, 80, 32, 78, 79, 80, 32, 83, 84, 89, 32, 76, 68, 89, 32, 78, 79, 80, 32, 78, 79, 80, 32]⟩ (4 * a.toNat) else cut3 ⟨#[78, 79, 80, 32, 78, 79, 80, 32, 78, 79, 80, 32, 78, 79, 80, 32, 83, 72, 89, 32, 76, 68, 89, 32, 78, 79, 80, 32, 78, 79, 80, 32]⟩ (4 * a.toNat)
def twoV (a b : Int) : ByteArray := if b = 0 then cut3 ⟨#[74, 65, 77, 32, 74, 65, 77, 32, 74, 65, 77, 32, 74, 65, 77, 32, 78, 79, 80, 32, 76, 68, 88, 32, 78, 79, 80, 32, 78, 79, 80, 32]⟩ (4 * a.toNat) else if b = 2 then cut3 ⟨#[65, 83, 76, 32, 82, 79, 76, 32, 76, 83, 82, 32, 82, 79, 82, 32, 84, 88, 65, 32, 84, 65, 88, 32, 68, 69, 88, 32, 78, 79, 80, 32]⟩ (4 * a.toNat) else if b = 4 then ⟨#[74, 65, 77]⟩ else if b = 6 then cut3 ⟨#[78, 79, 80, 32, 78, 79, 80, 32, 78, 79, 80, 32, 78, 79, 80, 32, 84, 88, 83, 32, 84, 83, 88, 32, 78, 79, 80, 32, 78, 79, 80, 32]⟩ (4 * a.toNat) else if b = 7 then cut3 ⟨#[65, 83, 76, 32, 82, 79, 76, 32, 76, 83, 82, 32, 82, 79, 82, 32, 83, 72, 88, 32, 76, 68, 88, 32, 68, 69, 67, 32, 73, 78, 67, 32]⟩ (4 * a.toNat) else cut3 ⟨#[65, 83, 76, 32, 82, 79, 76, 32, 76, 83, 82, 32, 82, 79, 82, 32, 83, 84, 88, 32, 76, 68, 88, 32, 68, 69, 67, 32, 73, 78, 67, 32]⟩ (4 * a.toNat)
def threeV (a b : Int) : ByteArray := if b = 2 then cut3 ⟨#[65, 78, 67, 32, 65, 78, 67, 32, 65, 76, 82, 32, 65, 82, 82, 32, 65, 78, 69, 32, 76, 88, 65, 32, 83, 66, 88, 32, 83, 66, 67, 32]⟩ (4 * a.toNat) else if b = 4 then cut3 ⟨#[83, 76, 79, 32, 82, 76, 65, 32, 83, 82, 69, 32, 82, 82, 65, 32, 83, 72, 65, 32, 76, 65, 88, 32, 68, 67, 80, 32, 73, 83, 67, 32]⟩ (4 * a.toNat) else if b = 6 then cut3 ⟨#[83, 76, 79, 32, 82, 76, 65, 32, 83, 82, 69, 32, 82, 82, 65, 32, 84, 65, 83, 32, 76, 65, 83, 32, 68, 67, 80, 32, 73, 83, 67, 32]⟩ (4 * a.toNat) else if b = 7 then cut3 ⟨#[83, 76, 79, 32, 82, 76, 65, 32, 83, 82, 69, 32, 82, 82, 65, 32, 83, 72, 65, 32, 76, 65, 88, 32, 68, 67, 80, 32, 73, 83, 67, 32]⟩ (4 * a.toNat) else cut3 ⟨#[83, 76, 79, 32, 82, 76, 65, 32, 83, 82, 69, 32, 82, 82, 65, 32, 83, 65, 88, 32, 76, 65, 88, 32, 68, 67, 80, 32, 73, 83, 67, 32]⟩ (4 * a.toNat)
def restV (a b : Int) : ByteArray := if a = 4 ∧ b = 2 then ⟨#[78, 79, 80]⟩ else cut3 ⟨#[79, 82, 65, 32, 65, 78, 68, 32, 69, 79, 82, 32, 65, 68, 67, 32, 83, 84, 65, 32, 76, 68, 65, 32, 67, 77, 80, 32, 83, 66, 67, 32]⟩ (4 * a.toNat)
def nameV (op : Int) : ByteArray := if op % 4 = 0 then zeroV (op / 32) (op / 4 % 8) else if op % 4 = 2 then twoV (op / 32) (op / 4 % 8) else if op % 4 = 3 then threeV (op / 32) (op / 4 % 8) else restV (op / 32) (op / 4 % 8)
end Go.Proofs.YtcgnnbgknaamdaaGreatDoor
namespace Go.Proofs.YtcgnnbgknaamdaaGreatDoor
open Go.RowKit
set_option linter.unusedSimpArgs false
set_option linter.unusedVariables false
set_option maxRecDepth 20000

def modeW (a b c : Int) (jam y jmp : Bool) : Int :=
  if jam = true then 20 else if b = 0 then (if c % 2 = 1 then 9 else if c = 0 ∧ a < 4 then (if a = 0 then 17 else if a = 1 then 14 else if a = 2 then 16 else 15) else 2)
  else if b = 1 then 3 else if b = 2 then (if c % 2 = 1 then 2 else if c = 0 ∧ a < 4 then 18 + a % 2 else if c = 2 ∧ a < 4 then 1 else 0)
  else if b = 3 then (if jmp = true then 15 - a else 6) else if b = 4 then (if c = 0 then 11 else 10) else if b = 5 then (if y = true then 5 else 4)
  else if b = 6 then (if c % 2 = 1 then 8 else 0) else (if y = true then 8 else 7)
def modeV (op : Int) : Int := modeW (op / 32) (op / 4 % 8) (op % 4) ((nameV op).toList == [74, 65, 77]) (isIn ⟨#[83, 84, 88, 32, 76, 68, 88, 32, 83, 65, 88, 32, 76, 65, 88, 32, 83, 72, 88, 32, 83, 72, 65, 32]⟩ (nameV op)) ((nameV op).toList == [74, 77, 80])
end Go.Proofs.YtcgnnbgknaamdaaGreatDoor
namespace Go.Proofs.YtcgnnbgknaamdaaGreatDoor
open Go.RowKit
set_option linter.unusedSimpArgs false
set_option linter.unusedVariables false
set_option maxRecDepth 20000

def useW (m : Int) (w2 w3 : Bool) : Int := if m < 2 ∨ 10 < m then 0 else if w2 = true then 2 else if w3 = true then 3 else 1
def useN (nm : ByteArray) (m : Int) : Int := useW m (isIn ⟨#[83, 84, 65, 32, 83, 84, 88, 32, 83, 84, 89, 32, 83, 65, 88, 32, 83, 72, 65, 32, 83, 72, 88, 32, 83, 72, 89, 32, 84, 65, 83, 32]⟩ nm) (isIn ⟨#[65, 83, 76, 32, 76, 83, 82, 32, 82, 79, 76, 32, 82, 79, 82, 32, 73, 78, 67, 32, 68, 69, 67, 32, 83, 76, 79, 32, 82, 76, 65, 32, 83, 82, 69, 32, 82, 82, 65, 32, 68, 67, 80, 32, 73, 83, 67, 32]⟩ nm)
def baseV (m : Int) : Int := if m = 3 then 3 else if m = 4 ∨ m = 5 ∨ m = 6 ∨ m = 7 ∨ m = 8 then 4 else if m = 9 then 6 else if m = 10 then 5 else if m = 12 then 5 else if m = 13 then 3 else if m = 14 ∨ m = 15 ∨ m = 16 then 6 else if m = 17 then 7 else if m = 18 then 3 else if m = 19 then 4 else if m = 20 then 0 else 2
def cycV (m u : Int) : Int := baseV m + (if 2 ≤ u ∧ (m = 7 ∨ m = 8 ∨ m = 10) then 1 else 0) + (if u = 3 then 2 else 0)
end Go.Proofs.YtcgnnbgknaamdaaGreatDoor
namespace Go.Proofs.YtcgnnbgknaamdaaGreatDoor
open Go.RowKit

section
variable {P : Program} {l : List Oper} {o : Oper} {C : World → Prop}
/-- What is listed of the whole, and of all but the last. -/
structure Both (l : List Oper) (x X : Array Bool) : Prop where
  one : x.size = l.length
  two : X.size = l.length + 1
  same : ∀ j, j < l.length → ∀ d, X.getD j d = x.getD j d
  not : X.getD l.length true = false
  shut : ∀ (j : Nat) (p : Oper), l[j]? = some p → x.getD j false = true → ∀ e ∈ p.after, Region.binds .any e = true → x.getD e.on false = true
theorem getD_of_size {x : Array Bool} {j : Nat} (h : j < x.size) (d e : Bool) : x.getD j d = x.getD j e := by simp [h]
theorem Both.set {x X : Array Bool} (h : Both l x X) (i : Nat) (hi : i < l.length) (hr : i ∈ Region.ready .any l.toArray x) : Both l (x.setIfInBounds i true) (X.setIfInBounds i true) := by
  have keep : ∀ m, x.getD m false = true → (x.setIfInBounds i true).getD m false = true := fun m hm => by
    by_cases e : i = m
    · subst e; simp [h.one, hi]
    · rw [getD_set_ne false e]; exact hm
  refine ⟨by simp [h.one], by simp [h.two], fun j hj d => ?_, ?_, fun j p hp hj e he hb => ?_⟩
  · by_cases e : i = j
    · subst e
      simp [h.one, h.two, hi, Nat.lt_succ_of_lt hi]
    · rw [getD_set_ne d e, getD_set_ne d e]
      exact h.same j hj d
  · rw [getD_set_ne true (by omega)]
    exact h.not
  · by_cases e' : i = j
    · subst e'
      obtain ⟨_, q, hq, hall⟩ := mem_ready.1 hr
      rw [show l.toArray[i]? = l[i]? by simp, hp] at hq
      injection hq with hq
      subst hq
      exact keep _ (hall e he hb)
    · rw [getD_set_ne false e'] at hj
      exact keep _ (h.shut j p hp hj e he hb)
theorem Both.start : Both l (Array.replicate l.length false) (Array.replicate (l.length + 1) false) := by
  refine ⟨by simp, by simp, fun j hj d => ?_, ?_, fun j p hp hj => ?_⟩
  · simp [hj, Nat.lt_succ_of_lt hj]
  · simp
  · have := (List.getElem?_eq_some_iff.1 hp).1
    simp [this] at hj
/-- Whatever order is picked, by whatever carries out one operation. -/
def anyG (step : Nat → (Act → World → Prop) → Act → World → Prop) (ops : Array Oper) (Qn : Act → World → Prop) : Nat → Array Bool → Act → World → Prop
  | 0, x, a, w => Region.ready .any ops x = [] ∧ Qn a w
  | f + 1, x, a, w => (Region.ready .any ops x = [] → Qn a w) ∧ ∀ i ∈ Region.ready .any ops x, step i (anyG step ops Qn f (x.setIfInBounds i true)) a w
theorem anyG_end {step : Nat → (Act → World → Prop) → Act → World → Prop} {ops : Array Oper} {Qn : Act → World → Prop} {x : Array Bool} {a : Act} {w : World} (h : Region.ready .any ops x = []) (hq : Qn a w) : ∀ f, anyG step ops Qn f x a w
  | 0 => ⟨h, hq⟩
  | f + 1 => ⟨fun _ => hq, fun i hi => by rw [h] at hi; cases hi⟩
theorem anyG_wpAny {ops : Array Oper} {Q : Exit → Act → World → Prop} : ∀ (f : Nat) (x : Array Bool) (a : Act) (w : World), anyG (wpOp P ops Q) ops (Q .normal) f x a w → wpAny P .any ops Q f x a w
  | 0, _, _, _, h => h
  | f + 1, _, _, _, h => ⟨h.1, fun i hi => wpOp_mono (fun a' w' => anyG_wpAny f _ a' w') (h.2 i hi)⟩
end
end Go.Proofs.YtcgnnbgknaamdaaGreatDoor
namespace Go.Proofs.YtcgnnbgknaamdaaGreatDoor
open Go.RowKit

/-- What is asked of the region's text: l ahead, t behind. -/
def seqB (l t : List Oper) : Bool :=
  Region.lexB .any l.toArray
  && ((List.range l.length).all fun k => match l[k]? with
    | none => true
    | some p => (p.after.all fun e => !Region.binds .any e || decide (e.on < k)) && (match p.guard with | none => true | some (j, _) => decide (j < l.length)))
  && (match t with
    | [] => false
    | o :: _ => (List.range l.length).all fun i => (o.after.any fun e => Region.binds .any e && e.on == i) || l.any fun p => p.after.any fun e => Region.binds .any e && e.on == i)
  && ((List.range t.length).all fun k => match t[k]? with
    | none => true
    | some o => (o.after.all fun e => !Region.binds .any e || decide (e.on < l.length + k)) && (match k with | 0 => true | k' + 1 => o.after.any fun e => Region.binds .any e && e.on == l.length + k'))
structure SeqOk (l t : List Oper) : Prop where
  lex : Region.lexB .any l.toArray = true
  low : ∀ (k : Nat) (p : Oper), l[k]? = some p → ∀ e ∈ p.after, Region.binds .any e = true → e.on < k
  guard : ∀ (k : Nat) (p : Oper), l[k]? = some p → ∀ j b, p.guard = some (j, b) → j < l.length
  waits : ∀ o, t[0]? = some o → ∀ i, i < l.length → (∃ e ∈ o.after, Region.binds .any e = true ∧ e.on = i) ∨ ∃ (j : Nat) (p : Oper), l[j]? = some p ∧ ∃ e ∈ p.after, Region.binds .any e = true ∧ e.on = i
  many : 0 < t.length
  chain : ∀ (k : Nat) (o : Oper), t[k + 1]? = some o → ∃ e ∈ o.after, Region.binds .any e = true ∧ e.on = l.length + k
  last : ∀ (k : Nat) (o : Oper), t[k]? = some o → ∀ e ∈ o.after, Region.binds .any e = true → e.on < l.length + k
theorem seqOk {l t : List Oper} (h : seqB l t = true) : SeqOk l t := by
  unfold seqB at h
  simp only [Bool.and_eq_true] at h
  obtain ⟨⟨⟨h1, h2⟩, h3⟩, h4⟩ := h
  have g : ∀ (k : Nat) (p : Oper), l[k]? = some p → (p.after.all fun e => !Region.binds .any e || decide (e.on < k)) = true ∧ (match p.guard with | none => true | some (j, _) => decide (j < l.length)) = true := fun k p hp => by
    have hk : k < l.length := (List.getElem?_eq_some_iff.1 hp).1
    have := List.all_eq_true.1 h2 k (List.mem_range.2 hk)
    rw [hp] at this
    simpa only [Bool.and_eq_true] using this
  have g4 : ∀ (k : Nat) (o : Oper), t[k]? = some o → (o.after.all fun e => !Region.binds .any e || decide (e.on < l.length + k)) = true ∧ (match k with | 0 => true | k' + 1 => o.after.any fun e => Region.binds .any e && e.on == l.length + k') = true := fun k o ho => by
    have hk : k < t.length := (List.getElem?_eq_some_iff.1 ho).1
    have := List.all_eq_true.1 h4 k (List.mem_range.2 hk)
    rw [ho] at this
    simpa only [Bool.and_eq_true] using this
  refine ⟨h1, fun k p hp e he hb => ?_, fun k p hp j b hg => ?_, fun o ho i hi => ?_, ?_, fun k o ho => ?_, fun k o ho e he hb => ?_⟩
  · have := Array.all_eq_true_iff_forall_mem.1 (g k p hp).1 e he
    simpa [hb] using this
  · have := (g k p hp).2
    rw [hg] at this
    simpa using this
  · cases t with
    | nil => cases ho
    | cons o' t' =>
      simp only [List.getElem?_cons_zero, Option.some.injEq] at ho
      subst ho
      have := List.all_eq_true.1 h3 i (List.mem_range.2 hi)
      rcases Bool.or_eq_true _ _ ▸ this with this | this
      · obtain ⟨e, he, hb⟩ := Array.any_eq_true'.1 this
        simp only [Bool.and_eq_true, beq_iff_eq] at hb
        exact .inl ⟨e, he, hb.1, hb.2⟩
      · obtain ⟨p, hp, hb⟩ := List.any_eq_true.1 this
        obtain ⟨j, hj⟩ := List.mem_iff_getElem?.1 hp
        obtain ⟨e, he, hb⟩ := Array.any_eq_true'.1 hb
        simp only [Bool.and_eq_true, beq_iff_eq] at hb
        exact .inr ⟨j, p, hj, e, he, hb.1, hb.2⟩
  · cases t with
    | nil => cases h3
    | cons _ _ => simp
  · obtain ⟨e, he, hb⟩ := Array.any_eq_true'.1 (g4 (k + 1) o ho).2
    simp only [Bool.and_eq_true, beq_iff_eq] at hb
    exact ⟨e, he, hb.1, hb.2⟩
  · have := Array.all_eq_true_iff_forall_mem.1 (g4 k o ho).1 e he
    simpa [hb] using this

section
variable {P : Program} {l t : List Oper} {C : World → Prop}
theorem seq_get (i : Nat) (h : i < l.length) : (l ++ t).toArray[i]? = l.toArray[i]? := by simp [List.getElem?_append_left h]
theorem seq_get_behind (k : Nat) : (l ++ t).toArray[l.length + k]? = t[k]? := by simp [List.getElem?_append_right]
theorem seq_yielded (a : Array Value) (j : Nat) (h : j < l.length) : yielded (l ++ t).toArray a j = yielded l.toArray a j := by
  unfold yielded
  rw [seq_get j h]
theorem seq_wanted (ok : SeqOk l t) {k : Nat} {p : Oper} (hp : l[k]? = some p) (a : Array Value) : Region.wanted p (yielded (l ++ t).toArray a) = Region.wanted p (yielded l.toArray a) := by
  unfold Region.wanted
  cases hg : p.guard with
  | none => rfl
  | some x => obtain ⟨j, b⟩ := x; simp only []; rw [seq_yielded a j (ok.guard k p hp j b hg)]
theorem seq_quiet (ok : SeqOk l t) {Q : Act → Prop} : ∀ (m : List Oper) (k : Nat) (a : Act), (∀ j, m[j]? = l[k + j]?) → wpQuiet P (l ++ t).toArray C Q m a → wpQuiet P l.toArray C Q m a
  | [], _, _, _, h => h
  | p :: m, k, a, hm, h => by
    have hp : l[k]? = some p := by have := hm 0; simpa using this.symm
    have hm' : ∀ j, m[j]? = l[k + 1 + j]? := fun j => by have := hm (j + 1); simpa [Nat.add_assoc, Nat.add_comm 1 j] using this
    unfold wpQuiet at h ⊢
    rw [seq_wanted ok hp] at h
    split
    · rename_i hw
      rw [if_pos hw] at h
      exact Oper.quiet_mono (fun a' => seq_quiet ok m (k + 1) a' hm') h
    · rename_i hw
      rw [if_neg hw] at h
      exact seq_quiet ok m (k + 1) _ hm' h
/-- What is listed of the whole, and of all but the last ones. -/
structure BothS (l : List Oper) (m : Nat) (x X : Array Bool) : Prop where
  one : x.size = l.length
  two : X.size = l.length + m
  same : ∀ j, j < l.length → ∀ d, X.getD j d = x.getD j d
  not : ∀ k, k < m → X.getD (l.length + k) true = false
  shut : ∀ (j : Nat) (p : Oper), l[j]? = some p → x.getD j false = true → ∀ e ∈ p.after, Region.binds .any e = true → x.getD e.on false = true
theorem BothS.set {m : Nat} {x X : Array Bool} (h : BothS l m x X) (i : Nat) (hi : i < l.length) (hr : i ∈ Region.ready .any l.toArray x) : BothS l m (x.setIfInBounds i true) (X.setIfInBounds i true) := by
  have keep : ∀ m, x.getD m false = true → (x.setIfInBounds i true).getD m false = true := fun m hm => by
    by_cases e : i = m
    · subst e; simp [h.one, hi]
    · rw [getD_set_ne false e]; exact hm
  refine ⟨by simp [h.one], by simp [h.two], fun j hj d => ?_, fun k hk => ?_, fun j p hp hj e he hb => ?_⟩
  · by_cases e : i = j
    · subst e
      simp [h.one, h.two, hi, Nat.lt_add_right m hi]
    · rw [getD_set_ne d e, getD_set_ne d e]
      exact h.same j hj d
  · rw [getD_set_ne true (by omega)]
    exact h.not k hk
  · by_cases e' : i = j
    · subst e'
      obtain ⟨_, q, hq, hall⟩ := mem_ready.1 hr
      rw [show l.toArray[i]? = l[i]? by simp, hp] at hq
      injection hq with hq
      subst hq
      exact keep _ (hall e he hb)
    · rw [getD_set_ne false e'] at hj
      exact keep _ (h.shut j p hp hj e he hb)
theorem BothS.start {m : Nat} : BothS l m (Array.replicate l.length false) (Array.replicate (l.length + m) false) := by
  refine ⟨by simp, by simp, fun j hj d => ?_, fun k hk => ?_, fun j p hp hj => ?_⟩
  · simp [hj, Nat.lt_add_right m hj]
  · simp [hk]
  · have := (List.getElem?_eq_some_iff.1 hp).1
    simp [this] at hj
theorem seq_ready_head (ok : SeqOk l t) {x X : Array Bool} (h : BothS l t.length x X) {i : Nat} (hi : i < l.length) : i ∈ Region.ready .any (l ++ t).toArray X ↔ i ∈ Region.ready .any l.toArray x := by
  rw [mem_ready, mem_ready, seq_get i hi, h.same i hi true]
  constructor
  · rintro ⟨h1, p, hp, hall⟩
    refine ⟨h1, p, hp, fun e he hb => ?_⟩
    have hlt := ok.low i p (by simpa using hp) e he hb
    rw [← h.same e.on (by omega) false]
    exact hall e he hb
  · rintro ⟨h1, p, hp, hall⟩
    refine ⟨h1, p, hp, fun e he hb => ?_⟩
    have hlt := ok.low i p (by simpa using hp) e he hb
    rw [h.same e.on (by omega) false]
    exact hall e he hb
theorem seq_done (ok : SeqOk l t) {x : Array Bool} (hs : x.size = l.length) (h : Region.ready .any l.toArray x = []) : ∀ j, j < l.length → ∀ d, x.getD j d = true := by
  intro j
  induction j using Nat.strongRecOn with
  | _ j ih =>
    intro hj d
    cases hx : x.getD j true with
    | true => rw [getD_of_size (by omega) d true]; exact hx
    | false =>
      have hp : l.toArray[j]? = some l[j] := by simp [hj]
      have : j ∈ Region.ready .any l.toArray x := mem_ready.2 ⟨hx, _, hp, fun e he hb => by
        have hlt := ok.low j _ (List.getElem?_eq_getElem hj) e he hb
        exact ih e.on hlt (by omega) false⟩
      rw [h] at this
      cases this
theorem seq_size {X : Array Bool} {i : Nat} (hi : i ∈ Region.ready .any (l ++ t).toArray X) : i < l.length ∨ ∃ k, k < t.length ∧ i = l.length + k := by
  obtain ⟨_, q, hq, _⟩ := mem_ready.1 hi
  have := (Array.getElem?_eq_some_iff.1 hq).1
  simp at this
  by_cases h : i < l.length
  · exact .inl h
  · exact .inr ⟨i - l.length, by omega, by omega⟩
/-- One of the last may come up only where all ahead of them is done, and then it is the first of them. -/
theorem seq_waits (ok : SeqOk l t) {x X : Array Bool} (h : BothS l t.length x X) {k : Nat} (hk : k < t.length) (hr : l.length + k ∈ Region.ready .any (l ++ t).toArray X) : Region.ready .any l.toArray x = [] := by
  obtain ⟨_, p, hp, hall⟩ := mem_ready.1 hr
  rw [seq_get_behind] at hp
  cases k with
  | succ k =>
    obtain ⟨e, he, hb, hon⟩ := ok.chain k p hp
    have h2 := hall e he hb
    rw [hon, getD_of_size (by rw [h.two]; omega) false true, h.not k (by omega)] at h2
    cases h2
  | zero =>
    have done : ∀ n i, l.length - i ≤ n → i < l.length → x.getD i false = true := fun n => by
      induction n with
      | zero => intro i hn hi; omega
      | succ n ih =>
        intro i hn hi
        rcases ok.waits p hp i hi with ⟨e, he, hb, hon⟩ | ⟨j, q, hq, e, he, hb, hon⟩
        · have h2 := hall e he hb
          rw [hon, h.same i hi false] at h2
          exact h2
        · have hj := (List.getElem?_eq_some_iff.1 hq).1
          have hlow := ok.low j q hq e he hb
          have := h.shut j q hq (ih j (by omega) hj) e he hb
          rw [hon] at this
          exact this
    rw [List.eq_nil_iff_forall_not_mem]
    intro i hi
    have h1 := mem_ready.1 hi
    have hlt : i < l.length := by
      obtain ⟨_, q, hq, _⟩ := h1
      simpa using (Array.getElem?_eq_some_iff.1 hq).1
    have h2 := done _ i (Nat.le_refl _) hlt
    rw [getD_of_size (by rw [h.one]; exact hlt) false true, h1.1] at h2
    cases h2
/-- The last ones, one behind the other. -/
theorem anyG_seq (ok : SeqOk l t) {step : Nat → (Act → World → Prop) → Act → World → Prop} {Qn : Act → World → Prop} {S : Nat → Act → World → Prop}
    (hlast : ∀ (k : Nat) (K' : Act → World → Prop) (a : Act) (w : World), k < t.length → S k a w → (∀ a' w', S (k + 1) a' w' → K' a' w') → step (l.length + k) K' a w)
    (hend : ∀ a w, S t.length a w → Qn a w) :
    ∀ (n k : Nat) (X : Array Bool) (a : Act) (w : World) (f : Nat), t.length - k = n → k ≤ t.length → n ≤ f → X.size = l.length + t.length → (∀ j, j < l.length + k → X.getD j true = true) → (∀ j, k ≤ j → j < t.length → X.getD (l.length + j) true = false) → S k a w → anyG step (l ++ t).toArray Qn f X a w := by
  intro n
  induction n with
  | zero =>
    intro k X a w f hn hk hf hs hd hnot hS
    obtain rfl : k = t.length := by omega
    refine anyG_end (List.eq_nil_iff_forall_not_mem.2 fun i hi => ?_) (hend _ _ hS) f
    have h1 := (mem_ready.1 hi).1
    rcases seq_size hi with hlt | ⟨j, hj, rfl⟩
    · rw [hd i (by omega)] at h1; cases h1
    · rw [hd _ (by omega)] at h1; cases h1
  | succ n ih =>
    intro k X a w f hn hk hf hs hd hnot hS
    obtain ⟨f', rfl⟩ : ∃ f', f = f' + 1 := ⟨f - 1, by omega⟩
    have hkt : k < t.length := by omega
    have hget : t[k]? = some t[k] := List.getElem?_eq_getElem hkt
    have hmem : l.length + k ∈ Region.ready .any (l ++ t).toArray X := mem_ready.2 ⟨hnot k (Nat.le_refl _) hkt, t[k], by rw [seq_get_behind]; exact hget, fun e he hb => by
      have hlt := ok.last k _ hget e he hb
      rw [getD_of_size (by omega) false true]
      exact hd _ hlt⟩
    refine ⟨fun h => (by rw [h] at hmem; cases hmem), fun i hi => ?_⟩
    have h1 := mem_ready.1 hi
    have hik : i = l.length + k := by
      rcases seq_size hi with hlt | ⟨j, hj, rfl⟩
      · have := h1.1
        rw [hd i (by omega)] at this; cases this
      · rcases Nat.lt_trichotomy j k with hlt | rfl | hlt
        · have := h1.1
          rw [hd _ (by omega)] at this; cases this
        · rfl
        · obtain ⟨j', rfl⟩ : ∃ j', j = j' + 1 := ⟨j - 1, by omega⟩
          obtain ⟨_, p, hp, hall⟩ := h1
          rw [seq_get_behind] at hp
          obtain ⟨e, he, hb, hon⟩ := ok.chain j' p hp
          have h2 := hall e he hb
          rw [hon, getD_of_size (by omega) false true, hnot j' (by omega) (by omega)] at h2
          cases h2
    subst hik
    refine hlast k _ a w hkt hS fun a' w' hS' => ih (k + 1) _ a' w' f' (by omega) (by omega) (by omega) (by simp [hs]) (fun j hj => ?_) (fun j hj hjt => ?_) hS'
    · by_cases e : l.length + k = j
      · subst e; simp [hs, hkt]
      · rw [getD_set_ne true e]
        exact hd j (by omega)
    · rw [getD_set_ne true (by omega)]
      exact hnot j (by omega) hjt
theorem anyG_tails (ok : SeqOk l t) {step : Nat → (Act → World → Prop) → Act → World → Prop} {Qn : Act → World → Prop} {Post : Act → Prop} {S : Nat → Act → World → Prop}
    (hstep : ∀ (i : Nat) (K : Act → Prop) (K' : Act → World → Prop) (a : Act) (w : World), i < l.length → C w → (∀ a w', C w' → K a → K' a w') → qOp P l.toArray C i K a → step i K' a w)
    (hpost : ∀ a w, C w → Post a → S 0 a w)
    (hlast : ∀ (k : Nat) (K' : Act → World → Prop) (a : Act) (w : World), k < t.length → S k a w → (∀ a' w', S (k + 1) a' w' → K' a' w') → step (l.length + k) K' a w)
    (hend : ∀ a w, S t.length a w → Qn a w) :
    ∀ (f : Nat) (x X : Array Bool) (a : Act) (w : World), BothS l t.length x X → C w → wpAnyQ P .any l.toArray C Post f x a → anyG step (l ++ t).toArray Qn (f + t.length) X a w := by
  have hfin : ∀ (f : Nat) (x X : Array Bool) (a : Act) (w : World), BothS l t.length x X → C w → Region.ready .any l.toArray x = [] → Post a → anyG step (l ++ t).toArray Qn (f + t.length) X a w := fun f x X a w hb hc hr hp => by
    have hd := seq_done ok hb.one hr
    exact anyG_seq ok hlast hend t.length 0 X a w _ (by omega) (by omega) (by omega) hb.two (fun j hj => by rw [hb.same j (by omega)]; exact hd j (by omega) true) (fun j _ hj => hb.not j hj) (hpost a w hc hp)
  intro f
  induction f with
  | zero => intro x X a w hb hc h; exact hfin 0 x X a w hb hc h.1 h.2
  | succ f ih =>
    intro x X a w hb hc h
    by_cases hr : Region.ready .any l.toArray x = []
    · exact hfin (f + 1) x X a w hb hc hr (h.1 hr)
    · rw [show f + 1 + t.length = (f + t.length) + 1 by omega]
      refine ⟨fun h0 => ?_, fun i hi => ?_⟩
      · obtain ⟨i, hi⟩ := List.exists_mem_of_ne_nil _ hr
        have hlt : i < l.length := by
          obtain ⟨_, q, hq, _⟩ := mem_ready.1 hi
          simpa using (Array.getElem?_eq_some_iff.1 hq).1
        have := (seq_ready_head ok hb hlt).2 hi
        rw [h0] at this
        cases this
      · rcases seq_size hi with hlt | ⟨k, hk, rfl⟩
        · exact hstep i _ _ a w hlt hc (fun a' w' hc' hk => ih _ _ a' w' (hb.set i hlt ((seq_ready_head ok hb hlt).1 hi)) hc' hk) (h.2 i ((seq_ready_head ok hb hlt).1 hi))
        · exact absurd (seq_waits ok hb hk hi) hr
theorem lex_seq (ok : SeqOk l t) {Post : Act → Prop} {a : Act} (h : wpQuiet P (l ++ t).toArray C Post l a) : wpAnyQ P .any l.toArray C Post l.length (Array.replicate l.length false) a := by
  have hl := ok.lex
  simp only [Region.lexB, Bool.and_eq_true] at hl
  exact wpAnyQ_lex hl.1 l 0 (Array.replicate l.length false) a (by simp) (by simpa using hl.2) (seq_quiet ok l 0 a (by simp) h)
/-- AT PLAIN CODE. -/
theorem wp_region_tails {id : Nat} {Q : Exit → Act → World → Prop} {a : Act} {w : World} (hm : P.follows .mixedOrders = true) (hB : seqB l t = true) (hC : C { w with drawn := w.drawn + 1 })
    (h : wpQuiet P (l ++ t).toArray C (fun a' => ∀ w', C w' → wpList P (l ++ t).toArray Q t a' w') l a) : (Code.region id (l ++ t).toArray true).wp P Q a w := by
  have ok := seqOk hB
  refine wp_region_any hm (anyG_wpAny _ _ _ _ ?_)
  have e : (l ++ t).toArray.size = l.length + t.length := by simp
  rw [e]
  refine anyG_tails ok (Post := fun a' => ∀ w', C w' → wpList P (l ++ t).toArray Q t a' w') (S := fun k a w => wpList P (l ++ t).toArray Q (t.drop k) a w) (fun i K K' a w hi hc hk hq => ?_) (fun a w hc hp => by simpa using hp w hc) (fun k K' a w hkt hS hk => ?_) (fun a w h => by simpa [wpList] using h) _ _ _ _ _ BothS.start hC (lex_seq ok h)
  · unfold qOp at hq
    unfold wpOp
    rw [seq_get i hi]
    split
    · rename_i h0; simp only [h0] at hq; exact hk _ _ hc hq
    · rename_i p hp
      simp only [hp] at hq
      rw [seq_wanted ok (k := i) (by simpa using hp)]
      split
      · rename_i hw; simp only [hw, if_true] at hq; exact .inl (Oper.wp_of_quiet hc hk hq)
      · rename_i hw; simp only [hw] at hq; exact hk _ _ hc hq
  · unfold wpOp
    rw [seq_get_behind, List.getElem?_eq_getElem hkt]
    rw [List.drop_eq_getElem_cons hkt] at hS
    simp only [wpList] at hS ⊢
    split
    · rename_i hw
      rw [if_pos hw] at hS
      exact hS.imp (Oper.wp_mono hk) (fun z => z)
    · rename_i hw
      rw [if_neg hw] at hS
      exact hk _ _ hS
/-- The same for a region whose operations are written out, n of them ahead; the class: blocks may have been laid, draws made. -/
theorem wp_region_tails_below {id : Nat} {Q : Exit → Act → World → Prop} {a : Act} {w : World} {L : List Oper} (n : Nat) (hm : P.follows .mixedOrders = true) (hB : seqB (L.take n) (L.drop n) = true)
    (h : wpQuiet P L.toArray (fun w' => ∃ p : Regrown, w' = Go.Sort.grow (redrawn w p.d) p.os) (fun a' => ∀ w', (∃ p : Regrown, w' = Go.Sort.grow (redrawn w p.d) p.os) → wpList P L.toArray Q (L.drop n) a' w') (L.take n) a) : (Code.region id L.toArray true).wp P Q a w := by
  obtain ⟨l, t, hl, ht, rfl⟩ : ∃ l t, L.take n = l ∧ L.drop n = t ∧ L = l ++ t := ⟨_, _, rfl, rfl, (List.take_append_drop n L).symm⟩
  rw [ht, hl] at hB h
  exact wp_region_tails (C := fun w' => ∃ p : Regrown, w' = Go.Sort.grow (redrawn w p.d) p.os) hm hB ⟨⟨w.drawn + 1, #[]⟩, by rw [Go.Sort.grow_empty]; rfl⟩ h
end
end Go.Proofs.YtcgnnbgknaamdaaGreatDoor
namespace Go.Proofs.YtcgnnbgknaamdaaGreatDoor
open Go.RowKit

/-! ### What a call hands back is one value -/
theorem runs_one {P : Program} {m0 m1 m2 : Machine} (h1 : Steps P m0 m1) (h2 : Steps P m0 m2) {o1 o2 : Outcome} {w1 w2 : World} (e1 : step P m1 = .ended o1 w1) (e2 : step P m2 = .ended o2 w2) : m1 = m2 := by
  obtain ⟨a, ha⟩ := h1
  obtain ⟨b, hb⟩ := h2
  have key : ∀ {a b : Nat} {m1 m2 : Machine} {o : Outcome} {w : World}, runN P a m0 = .next m1 → runN P b m0 = .next m2 → step P m1 = .ended o w → b ≤ a := fun {a b m1 m2 o w} ha hb he => by
    rcases Nat.lt_or_ge a b with h | h
    · obtain ⟨c, rfl⟩ : ∃ c, b = a + (c + 1) := ⟨b - a - 1, by omega⟩
      rw [runN_add, ha] at hb
      simp [runN, he] at hb
    · exact h
  have hab := Nat.le_antisymm (key hb ha e2) (key ha hb e1)
  subst hab
  rw [ha] at hb
  injection hb
theorem returned_one {P : Program} {f : FuncId} {args : Array Value} {w : World} {v u : Value} {R R' : World → Prop} (hi : P.inits.idxOf? f = none)
    (h1 : Calls P f args w fun e w' => e = .returned v ∧ R w') (h2 : Calls P f args w fun e w' => e = .returned u ∧ R' w') : v = u := by
  obtain ⟨e1, w1, fr1, ⟨he1, _⟩, c1, f1, l1⟩ := h1 []
  obtain ⟨e2, w2, fr2, ⟨he2, _⟩, c2, f2, l2⟩ := h2 []
  subst he1
  subst he2
  have s1 := step_leave_done l1 (by rw [f1]; exact hi)
  have s2 := step_leave_done l2 (by rw [f2]; exact hi)
  have e := runs_one (show Steps P _ _ from c1) (show Steps P _ _ from c2) s1 s2
  rw [e, s2] at s1
  injection s1 with s1
  injection s1 with s1
  exact s1.symm

/-- An operation that enters no function, or one that is known by its number. -/
def plainOp (P : Program) (o : Oper) : Bool :=
  match o.op with
  | .call c => match c.callee with
    | .value (.func f) => (P.inits.idxOf? f).isNone && ((P.funcs[f]?).map fun fn => fn.body.isSome).getD false
    | .builtin .len => true
    | .builtin .cap => true
    | .builtin .min => true
    | .builtin .max => true
    | _ => false
  | .go _ => false
  | .defer _ => false
  | .send .. => false
  | .recv .. => false
  | .select .. => false
  | .nilCheck _ => true
  | _ => true
section
variable {P : Program}
theorem then_not {α : Type} {r : Result α} {g : α → Value} {w' : World} {f : FuncId} {args : Array Value} : (r.andThen fun a w' => Result.ok (Next.value (g a)) w') ≠ .ok (.enter f args) w' := by
  intro h
  cases r <;> simp [Result.andThen] at h
theorem value_not {s : Sem Value} {w w' : World} {f : FuncId} {args : Array Value} : (do pure (Next.value (← s)) : Sem Next).run P w ≠ .ok (.enter f args) w' := by
  intro h
  simp only [Sem.run_bind] at h
  cases hs : s.run P w with
  | ok v w1 => rw [hs] at h; simp [Result.andThen] at h
  | halt x w1 => rw [hs] at h; simp [Result.andThen] at h
theorem skip_not {s : Sem Unit} {w w' : World} {f : FuncId} {args : Array Value} : (do s; pure Next.skip : Sem Next).run P w ≠ .ok (.enter f args) w' := by
  intro h
  simp only [Sem.run_bind] at h
  cases hs : s.run P w with
  | ok v w1 => rw [hs] at h; simp [Result.andThen] at h
  | halt x w1 => rw [hs] at h; simp [Result.andThen] at h
theorem andThen_not {α : Type} {r : Result α} {g : α → World → Result Next} {w' : World} {f : FuncId} {args : Array Value} (h : ∀ a w1, g a w1 ≠ .ok (.enter f args) w') : r.andThen g ≠ .ok (.enter f args) w' := by
  cases r with
  | ok a w1 => exact h a w1
  | halt x w1 => intro h; cases h
theorem panic_not {w w' : World} {f : FuncId} {args : Array Value} : (runtimePanic .nilDeref : Sem Next).run P w ≠ .ok (.enter f args) w' := by
  intro h
  simp [runtimePanic, goPanic, go_sem] at h

theorem plain_enter {o : Oper} {ρ : Operand → Value} {w w' : World} {f : FuncId} {args : Array Value} (hρ : ∀ g, ρ (.func g) = .func (.func g) #[] #[]) (h : plainOp P o = true) (hr : (execOp ρ o).run P w = .ok (.enter f args) w') : P.inits.idxOf? f = none := by
  obtain ⟨dst, op, type, pos, after, guard⟩ := o
  cases op
  case call c =>
    obtain ⟨callee, cargs, ctypes⟩ := c
    cases callee with
    | value x =>
      cases x with
      | func g =>
        simp only [plainOp, Bool.and_eq_true, Option.isNone_iff_eq_none] at h
        obtain ⟨h1, h2⟩ := h
        simp only [execOp, resolve, hρ, Deferred.ofValue, Sem.run_bind, Sem.run_pure, Result.andThen_ok, invoke, callFunc, run_program] at hr
        cases hf : P.funcs[g]? with
        | none => rw [hf] at h2; simp at h2
        | some fn =>
          rw [hf] at h2 hr
          simp only [Option.map_some, Option.getD_some] at h2
          have hb : fn.body.isNone = false := by cases hb : fn.body <;> simp [hb] at h2 ⊢
          simp only [hb] at hr
          split at hr
          · simp [Sem.run_pure] at hr
          · simp [Sem.run_pure] at hr
            rw [← hr.1.1]
            exact h1
      | _ => simp [plainOp] at h
    | invoke x y => simp [plainOp] at h
    | builtin b =>
      cases b <;> simp only [plainOp, Bool.false_eq_true] at h <;> simp only [execOp, resolve, Sem.run_bind, Sem.run_pure, Result.andThen_ok, invoke, builtin] at hr <;> exact absurd hr (then_not (g := id))
  case nilCheck x =>
    simp only [execOp] at hr
    split at hr
    · exact absurd hr panic_not
    · exact absurd hr panic_not
    · exact absurd hr panic_not
    · split at hr
      · exact absurd hr panic_not
      · simp only [Sem.run_bind] at hr
        refine absurd hr (andThen_not fun a w1 => andThen_not fun b w2 => ?_)
        split
        · simp only [Sem.run_bind]
          exact andThen_not fun _ _ => by simp [Sem.run_pure]
        · simp [Sem.run_pure]
      · simp [Sem.run_pure] at hr
    · simp [Sem.run_pure] at hr
  all_goals first
    | (simp [plainOp] at h; done)
    | (simp only [execOp] at hr; first | exact absurd hr value_not | exact absurd hr skip_not | (simp [Sem.run_pure] at hr; done) | (simp only [Sem.run_bind, Sem.run_pure] at hr; exact absurd hr then_not))
    | skip
end

/-! ### The boxes -/
def ptrTo (b : Nat) : Value := .pointer (some ⟨b, 0, none⟩)
/-- The slot of box k. -/
def slotOf (m : List Oper) (k : Nat) : Tmp := ((m[k]?).bind (·.dst)).getD 0
structure AloOk (P : Program) (l m t : List Oper) : Prop where
  seq : SeqOk (l ++ m) t
  lex : Region.lexB .any l.toArray = true
  off : ∀ o ∈ l, plainOp P o = true ∧ ∀ k, k < m.length → slotOf m k ∉ o.looksAt (l ++ m ++ t).toArray ∧ o.dst ≠ some (slotOf m k)
  bare : ∀ k o, m[k]? = some o → o.guard = none ∧ o.dst = some (slotOf m k)
  low : ∀ (k : Nat) (p : Oper), l[k]? = some p → ∀ e ∈ p.after, Region.binds .any e = true → e.on < k
  guard : ∀ (k : Nat) (p : Oper), l[k]? = some p → ∀ j b, p.guard = some (j, b) → j < l.length
  diff : ∀ i j, i < m.length → j < m.length → i ≠ j → slotOf m i ≠ slotOf m j
section
variable {P : Program} {l m t : List Oper}
/-- A world in which the boxes ks are made. -/
structure MadeAt (O : Nat → Obj) (w : World) (β : Nat → Nat) (ks : List Nat) (w1 : World) : Prop where
  below : Below w.heap.size w w1
  at_ : ∀ k ∈ ks, w.heap.size ≤ β k ∧ β k < w1.heap.size ∧ w1.heap[β k]? = some (O k)
  diff : ∀ i ∈ ks, ∀ j ∈ ks, β i = β j → i = j
theorem MadeAt.next {O : Nat → Obj} {w w1 w2 : World} {β : Nat → Nat} {ks : List Nat} (h : MadeAt O w β ks w1) (hb : Below w1.heap.size w1 w2) : MadeAt O w β ks w2 := by
  have hz := hb.size
  refine ⟨h.below.trans (hb.mono h.below.size), fun k hk => ?_, h.diff⟩
  obtain ⟨h1, h2, h3⟩ := h.at_ k hk
  exact ⟨h1, by omega, by rw [hb.block _ h2]; exact h3⟩
/-- The class of a world: blocks may have been laid, draws made. -/
def ClassOf (w : World) : World → Prop := fun w' => ∃ p : Regrown, w' = Go.Sort.grow (redrawn w p.d) p.os
theorem classOf_self (w : World) : ClassOf w w := regrown_of_below (Below.refl _ _)
theorem below_of_class {w w' : World} (h : ClassOf w w') : Below w.heap.size w w' := by
  obtain ⟨p, rfl⟩ := h
  exact below_regrown w p.d p.os
theorem quiet_one {o : Oper} {a : Act} {C C' : World → Prop} {w : World} {v u : Value} (hp : plainOp P o = true) (h1 : o.quietAt P a C w v) (h2 : o.quietAt P a C' w u) : v = u := by
  unfold Oper.quietAt at h1 h2
  cases hr : (execOp a.eval o).run P w with
  | ok n w' =>
    rw [hr] at h1 h2
    cases n <;> simp only [Oper.quietUpon] at h1 h2
    case value x => exact h1.2.symm.trans h2.2
    case skip => exact h1.2.trans h2.2.symm
    case enter f args => exact returned_one (plain_enter (fun _ => rfl) hp hr) h1.2 h2.2
  | halt x w' => rw [hr] at h1; simp only [Oper.quietUpon] at h1

/-- What holds of the run: the boxes ks are made, the boxes rest are still to come. -/
structure AloInv (l m : List Oper) (n : Nat) (O : Nat → Obj) (w : World) (ks rest : List Nat) (β : Nat → Nat) (x x' X : Array Bool) (w1 : World) : Prop where
  both : BothS (l ++ m) n x' X
  size : x.size = l.length
  same : ∀ j, j < l.length → ∀ d, x'.getD j d = x.getD j d
  made : ∀ k, k < m.length → (x'.getD (l.length + k) true = true ↔ k ∈ ks)
  perm : (ks ++ rest).Perm (List.range m.length)
  boxed : MadeAt O w β ks w1
theorem AloInv.lt {n : Nat} {O : Nat → Obj} {w : World} {ks rest : List Nat} {β : Nat → Nat} {x x' X : Array Bool} {w1 : World} (h : AloInv l m n O w ks rest β x x' X w1) : ∀ k ∈ ks, k < m.length := fun _ hk =>
  List.mem_range.1 (h.perm.mem_iff.1 (List.mem_append_left _ hk))
theorem AloInv.nodup {n : Nat} {O : Nat → Obj} {w : World} {ks rest : List Nat} {β : Nat → Nat} {x x' X : Array Bool} {w1 : World} (h : AloInv l m n O w ks rest β x x' X w1) : (ks ++ rest).Nodup :=
  h.perm.nodup_iff.2 List.nodup_range
theorem AloInv.ready (ok : AloOk P l m t) {n : Nat} {O : Nat → Obj} {w : World} {ks rest : List Nat} {β : Nat → Nat} {x x' X : Array Bool} {w1 : World} (h : AloInv l m n O w ks rest β x x' X w1) {i : Nat} (hi : i < l.length) (hr : i ∈ Region.ready .any (l ++ m).toArray x') : i ∈ Region.ready .any l.toArray x := by
  rw [mem_ready, seq_get i hi, h.same i hi true] at hr
  rw [mem_ready]
  obtain ⟨h1, p, hp, hall⟩ := hr
  refine ⟨h1, p, hp, fun e he hbd => ?_⟩
  have hlow := ok.low i p (by simpa using hp) e he hbd
  rw [← h.same e.on (by omega) false]
  exact hall e he hbd
end
end Go.Proofs.YtcgnnbgknaamdaaGreatDoor
namespace Go.Proofs.YtcgnnbgknaamdaaGreatDoor
open Go.RowKit
set_option linter.unusedSimpArgs false
set_option linter.unusedVariables false
set_option maxRecDepth 20000

def crossV (m u : Int) : Bool := (m == 11) || ((u == 1) && ((m == 7) || (m == 8) || (m == 10)))
def goodW (op : Int) (rare nop : Bool) : Bool := !rare && (!nop || (op == 234)) && (op != 235)
def goodV (op : Int) : Bool := goodW op (isIn ⟨#[65, 76, 82, 32, 65, 78, 67, 32, 65, 78, 69, 32, 65, 82, 82, 32, 68, 67, 80, 32, 73, 83, 67, 32, 74, 65, 77, 32, 76, 65, 83, 32, 76, 65, 88, 32, 76, 88, 65, 32, 82, 76, 65, 32, 82, 82, 65, 32, 83, 65, 88, 32, 83, 66, 88, 32, 83, 72, 65, 32, 83, 72, 88, 32, 83, 72, 89, 32, 83, 76, 79, 32, 83, 82, 69, 32, 84, 65, 83, 32]⟩ (nameV op)) ((nameV op).toList == [78, 79, 80])
def useV (op : Int) : Int := useN (nameV op) (modeV op)
/-- An instruction's six cells. -/
def opC (nm : ByteArray) (m u c : Int) (x g : Bool) : Array Value := #[.string nm, .int .i64 m, .int .i64 u, .int .i64 c, .bool x, .bool g]
def decC (op : Int) : Array Value := opC (nameV op) (modeV op) (useV op) (cycV (modeV op) (useV op)) (crossV (modeV op) (useV op)) (goodV op)
theorem alloc_op (w : World) : (Instr.alloc 66 true (.tuple #[])).run Tryz.prog w = .ok (.pointer (some ⟨w.heap.size, 0, none⟩)) (w.alloc (.cells (opC ⟨#[]⟩ 0 0 0 false false) 66)) := by kernel_rfl
end Go.Proofs.YtcgnnbgknaamdaaGreatDoor
