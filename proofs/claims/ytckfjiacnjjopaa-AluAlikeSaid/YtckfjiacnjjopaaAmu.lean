/-
  Maths of reckoning, second part: what each reckoning tells of numbers and of labels, and that the program's bits are it. No condition on the program.
-/
import Derived.Test.YtckfjiacnjjopaaAmt
namespace Go.Proofs.Ytckfjiacnjjopaa
set_option linter.unusedSimpArgs false

theorem beq_dec (x y : Int) : (x == y) = decide (x = y) := rfl
theorem bne_dec (x y : Int) : (x != y) = decide (x ≠ y) := by
  by_cases h : x = y
  · subst h; simp
  · simp [h, bne, beq_dec]
def cI (p : Int) : Int := oneI (hasV p 1)
theorem oneI_two (b : Bool) : 0 ≤ oneI b ∧ oneI b ≤ 1 := by cases b <;> decide
theorem cI_two (p : Int) : 0 ≤ cI p ∧ cI p ≤ 1 := oneI_two _
theorem oneI_ne (b : Bool) : (oneI b != 0) = b := by cases b <;> decide
def nzP (p v : Int) : Int := pbV (pbV p 128 (decide (128 ≤ v))) 2 (decide (v = 0))
def nzS (s : Int) (x : Bool) : Int := pbV (pbV s 128 x) 2 x
def sgn (v : Int) : Int := if v < 128 then v else v - 256
def adcV (a m c : Int) : Int := (a + m + c) % 256
def adcO (a m c : Int) : Bool := decide (sgn a + sgn m + c < -128) || decide (127 < sgn a + sgn m + c)
def adcP (p a m c : Int) : Int := nzP (pbV (pbV p 1 (decide (256 ≤ a + m + c))) 64 (adcO a m c)) (adcV a m c)
def adcS (s : Int) (x : Bool) : Int := nzS (pbV (pbV s 1 x) 64 x) x
def lessV (a m : Int) : Int := (256 + a - m) % 256
def lessP (p a m : Int) : Int := nzP (pbV p 1 (decide (m ≤ a))) (lessV a m)
def lessS (s : Int) (x : Bool) : Int := nzS (pbV s 1 x) x
def bothV (a m : Int) : Int := bits .and .u8 a m
def bitP (p a m : Int) : Int := pbV (pbV (pbV p 2 (decide (bothV a m = 0))) 128 (decide (128 ≤ m))) 64 (decide (m / 64 % 2 = 1))
def bitS (s : Int) (x y : Bool) : Int := pbV (pbV (pbV s 2 (x || y)) 128 y) 64 y
def leftV (b c : Int) : Int := (2 * b + c) % 256
def leftP (p b c : Int) : Int := nzP (pbV p 1 (decide (128 ≤ b))) (leftV b c)
def rollS (s : Int) (x y : Bool) : Int := nzS (pbV s 1 x) (x || y)
def rightV (b c : Int) : Int := (b / 2 + 128 * c) % 256
def rightP (p b c : Int) : Int := nzP (pbV p 1 (decide (b % 2 = 1))) (rightV b c)
def arrV (a m c : Int) : Int := rightV (bothV a m) c
def arrP (p a m c : Int) : Int := pbV (pbV (rightP p (bothV a m) c) 1 (decide (arrV a m c / 64 % 2 = 1))) 64 (decide (arrV a m c / 64 % 2 ≠ arrV a m c / 32 % 2))
def arrS (s : Int) (x y : Bool) : Int := pbV (pbV (rollS s x y) 1 (x || y)) 64 (x || y)
def pushV (p : Int) (k : Bool) : Int := clr p + 32 + if k then 16 else 0
def pullS (x : Bool) : Int := if x then 207 else 0

section
variable {p s a m b c v : Int} {x y : Bool}
theorem nzP_le (p v : Int) : 0 ≤ nzP p v ∧ nzP p v < 256 := pbV_le _ _ _
theorem nzS_le (s : Int) (x : Bool) : 0 ≤ nzS s x ∧ nzS s x < 256 := pbV_le _ _ _
theorem adcV_le (a m c : Int) : 0 ≤ adcV a m c ∧ adcV a m c < 256 := by unfold adcV; omega
theorem lessV_le (a m : Int) : 0 ≤ lessV a m ∧ lessV a m < 256 := by unfold lessV; omega
theorem leftV_le (b c : Int) : 0 ≤ leftV b c ∧ leftV b c < 256 := by unfold leftV; omega
theorem rightV_le (b c : Int) : 0 ≤ rightV b c ∧ rightV b c < 256 := by unfold rightV; omega
theorem bothV_le (a m : Int) (h0 : 0 ≤ a) (h1 : a < 256) (g0 : 0 ≤ m) (g1 : m < 256) : 0 ≤ bothV a m ∧ bothV a m < 256 := by
  unfold bothV
  rw [u8_and a m h0 h1 g0 g1]
  have : a.toNat &&& m.toNat ≤ a.toNat := Nat.and_le_left
  omega
theorem clr_nzP (p v : Int) : clr (nzP p v) = nzP p v := clr_put _ _ _
theorem clr_nzS (s : Int) (x : Bool) : clr (nzS s x) = nzS s x := clr_put _ _ _
/-- Bits 128 and 2 are put before, or behind: it is the same. -/
theorem nzP_put (p v : Int) (b : Int) (x : Bool) (h : (128 : Int).toNat &&& b.toNat = 0) (g : (2 : Int).toNat &&& b.toNat = 0) : pbV (nzP p v) b x = nzP (pbV p b x) v := by
  unfold nzP
  rw [put_comm _ 2 b _ _ g, put_comm _ 128 b _ _ h]
theorem nzS_put (s : Int) (y : Bool) (b : Int) (x : Bool) (h : (128 : Int).toNat &&& b.toNat = 0) (g : (2 : Int).toNat &&& b.toNat = 0) : pbV (nzS s y) b x = nzS (pbV s b x) y := by
  unfold nzS
  rw [put_comm _ 2 b _ _ g, put_comm _ 128 b _ _ h]
theorem adcP_pro : pbV (pbV (nzP p (adcV a m c)) 1 (decide (256 ≤ a + m + c))) 64 (adcO a m c) = adcP p a m c := by
  rw [nzP_put _ _ 1 _ (by decide) (by decide), nzP_put _ _ 64 _ (by decide) (by decide)]; rfl
theorem adcS_pro : pbV (pbV (nzS s x) 1 x) 64 x = adcS s x := by
  rw [nzS_put _ _ 1 _ (by decide) (by decide), nzS_put _ _ 64 _ (by decide) (by decide)]; rfl
theorem lessP_pro : pbV (nzP p (lessV a m)) 1 (decide (m ≤ a)) = lessP p a m := by rw [nzP_put _ _ 1 _ (by decide) (by decide)]; rfl
theorem lessS_pro : pbV (nzS s x) 1 x = lessS s x := by rw [nzS_put _ _ 1 _ (by decide) (by decide)]; rfl
theorem leftP_pro : pbV (nzP p (leftV b c)) 1 (decide (128 ≤ b)) = leftP p b c := by rw [nzP_put _ _ 1 _ (by decide) (by decide)]; rfl
theorem rightP_pro : pbV (nzP p (rightV b c)) 1 (decide (b % 2 = 1)) = rightP p b c := by rw [nzP_put _ _ 1 _ (by decide) (by decide)]; rfl
theorem rollS_pro : pbV (nzS s (x || y)) 1 x = rollS s x y := by rw [nzS_put _ _ 1 _ (by decide) (by decide)]; rfl

/-! ### the program's bits -/
theorem top_bit (h0 : 0 ≤ v) (h1 : v < 256) : (bitV v 7 != 0) = decide (128 ≤ v) := byte_all (p := fun v => (bitV v 7 != 0) = decide (128 ≤ v)) (by decide +kernel) v h0 h1
theorem six_bit (h0 : 0 ≤ v) (h1 : v < 256) : (bitV v 6 != 0) = decide (v / 64 % 2 = 1) := byte_all (p := fun v => (bitV v 6 != 0) = decide (v / 64 % 2 = 1)) (by decide +kernel) v h0 h1
theorem low_bit (h0 : 0 ≤ v) (h1 : v < 256) : (bitV v 0 != 0) = decide (v % 2 = 1) := byte_all (p := fun v => (bitV v 0 != 0) = decide (v % 2 = 1)) (by decide +kernel) v h0 h1
theorem two_bit (h0 : 0 ≤ v) (h1 : v < 256) : (bits .xor .u8 (bitV v 6) (bitV v 5) != 0) = decide (v / 64 % 2 ≠ v / 32 % 2) := byte_all (p := fun v => (bits .xor .u8 (bitV v 6) (bitV v 5) != 0) = decide (v / 64 % 2 ≠ v / 32 % 2)) (by decide +kernel) v h0 h1
theorem xor_255 (h0 : 0 ≤ v) (h1 : v < 256) : bits .xor .u8 v 255 = 255 - v := byte_all (p := fun v => bits .xor .u8 v 255 = 255 - v) (by decide +kernel) v h0 h1
theorem left_or (h0 : 0 ≤ b) (h1 : b < 256) (g0 : 0 ≤ c) (g1 : c ≤ 1) : bits .or .u8 (b * 2 % 256) c = leftV b c := by
  rcases (show c = 0 ∨ c = 1 by omega) with rfl | rfl
  · exact byte_all (p := fun b => bits .or .u8 (b * 2 % 256) 0 = (2 * b + 0) % 256) (by decide +kernel) b h0 h1
  · exact byte_all (p := fun b => bits .or .u8 (b * 2 % 256) 1 = (2 * b + 1) % 256) (by decide +kernel) b h0 h1
theorem right_or (h0 : 0 ≤ b) (h1 : b < 256) (g0 : 0 ≤ c) (g1 : c ≤ 1) : bits .or .u8 (b / 2) (c * 128) = rightV b c := by
  rcases (show c = 0 ∨ c = 1 by omega) with rfl | rfl
  · exact byte_all (p := fun b => bits .or .u8 (b / 2) (0 * 128) = (b / 2 + 128 * 0) % 256) (by decide +kernel) b h0 h1
  · exact byte_all (p := fun b => bits .or .u8 (b / 2) (1 * 128) = (b / 2 + 128 * 1) % 256) (by decide +kernel) b h0 h1
theorem tb7 (h0 : 0 ≤ v) (h1 : v < 256) : v.toNat.testBit 7 = decide (128 ≤ v) := byte_all (p := fun v => v.toNat.testBit 7 = decide (128 ≤ v)) (by decide +kernel) v h0 h1
theorem xor_le (a b : Int) (h0 : 0 ≤ a) (h1 : a < 256) (g0 : 0 ≤ b) (g1 : b < 256) : 0 ≤ bits .xor .u8 a b ∧ bits .xor .u8 a b < 256 := by
  rw [u8_xor a b h0 h1 g0 g1]
  have : a.toNat ^^^ b.toNat < 2 ^ 8 := Nat.xor_lt_two_pow (by omega) (by omega)
  omega
theorem ovf_bit (h0 : 0 ≤ a) (h1 : a < 256) (g0 : 0 ≤ m) (g1 : m < 256) (c0 : 0 ≤ c) (c1 : c ≤ 1) : (bitV (bits .and .u8 (bits .xor .u8 a (adcV a m c)) (bits .xor .u8 m (adcV a m c))) 7 != 0) = adcO a m c := by
  obtain ⟨v0, v1⟩ := adcV_le a m c
  obtain ⟨x0, x1⟩ := xor_le a _ h0 h1 v0 v1
  obtain ⟨y0, y1⟩ := xor_le m _ g0 g1 v0 v1
  obtain ⟨z0, z1⟩ := bothV_le _ _ x0 x1 y0 y1
  unfold bothV at z0 z1
  rw [top_bit z0 z1, ← tb7 z0 z1, u8_and _ _ x0 x1 y0 y1, Int.toNat_natCast, Nat.testBit_and, u8_xor _ _ h0 h1 v0 v1, u8_xor _ _ g0 g1 v0 v1, Int.toNat_natCast, Int.toNat_natCast, Nat.testBit_xor, Nat.testBit_xor, tb7 h0 h1, tb7 g0 g1, tb7 v0 v1]
  have hv : adcV a m c = a + m + c ∨ adcV a m c = a + m + c - 256 := by unfold adcV; omega
  unfold adcO sgn
  generalize adcV a m c = v at *
  have f : ∀ x : Int, decide (128 ≤ x) = !decide (x < 128) := fun x => by
    by_cases h : x < 128
    · rw [decide_eq_true h, decide_eq_false (by omega)]; rfl
    · rw [decide_eq_false h, decide_eq_true (by omega)]; rfl
  rw [f a, f m, f v]
  by_cases e1 : a < 128 <;> by_cases e2 : m < 128 <;> by_cases e3 : v < 128
  all_goals
    simp only [e1, e2, e3, if_true, if_false, decide_true, decide_false, Bool.not_true, Bool.not_false, Bool.xor_self, Bool.false_and, Bool.and_false, Bool.and_true, Bool.xor_false, Bool.xor_true]
    rw [eq_comm]
    simp only [Bool.or_eq_true, Bool.or_eq_false_iff, decide_eq_true_eq, decide_eq_false_iff_not]
    omega

theorem car_bit (n : Int) (h : 0 ≤ n) : (n / 256 != 0) = decide (256 ≤ n) := by
  rw [Bool.eq_iff_iff]
  simp
  omega

/-! ### back again -/
theorem add_back (h0 : 0 ≤ a) (h1 : a < 256) : adcV (adcV a m 0) (255 - m) 1 = a := by unfold adcV; omega
def rollL : Nat → Int → Bool → Int × Bool
  | 0, v, c => (v, c)
  | k + 1, v, c => let r := rollL k v c; (leftV r.1 (oneI r.2), decide (128 ≤ r.1))
def rollR : Nat → Int → Bool → Int × Bool
  | 0, v, c => (v, c)
  | k + 1, v, c => let r := rollR k v c; (rightV r.1 (oneI r.2), decide (r.1 % 2 = 1))
theorem rollL_nine (v : Int) (c : Bool) (h0 : 0 ≤ v) (h1 : v < 256) : rollL 9 v c = (v, c) := by
  cases c
  · exact byte_all (p := fun v => rollL 9 v false = (v, false)) (by decide +kernel) v h0 h1
  · exact byte_all (p := fun v => rollL 9 v true = (v, true)) (by decide +kernel) v h0 h1
theorem rollR_nine (v : Int) (c : Bool) (h0 : 0 ≤ v) (h1 : v < 256) : rollR 9 v c = (v, c) := by
  cases c
  · exact byte_all (p := fun v => rollR 9 v false = (v, false)) (by decide +kernel) v h0 h1
  · exact byte_all (p := fun v => rollR 9 v true = (v, true)) (by decide +kernel) v h0 h1
theorem rollL_le (k : Nat) (v : Int) (c : Bool) (h0 : 0 ≤ v) (h1 : v < 256) : 0 ≤ (rollL k v c).1 ∧ (rollL k v c).1 < 256 := by
  cases k
  · exact ⟨h0, h1⟩
  · exact leftV_le _ _
theorem rollR_le (k : Nat) (v : Int) (c : Bool) (h0 : 0 ≤ v) (h1 : v < 256) : 0 ≤ (rollR k v c).1 ∧ (rollR k v c).1 < 256 := by
  cases k
  · exact ⟨h0, h1⟩
  · exact rightV_le _ _
theorem has_nz (p v : Int) : hasV (nzP p v) 1 = hasV p 1 := by
  unfold nzP
  rw [has_over _ 2 _ (by decide), has_over _ 128 _ (by decide)]
theorem has_left : hasV (leftP p b c) 1 = decide (128 ≤ b) := by unfold leftP; rw [has_nz, has_put]
theorem has_right : hasV (rightP p b c) 1 = decide (b % 2 = 1) := by unfold rightP; rw [has_nz, has_put]
end
end Go.Proofs.Ytckfjiacnjjopaa
