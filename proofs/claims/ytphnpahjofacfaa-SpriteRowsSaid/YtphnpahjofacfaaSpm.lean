/-
  What moves on a picture, in plain numbers: which sprites are on a line, where a sprite's row is, what a unit is, what is seen of units. Without any world.
-/
import Derived.Test.YtphnpahjofacfaaTim
import Derived.Test.YtphnpahjofacfaaHbt
import Derived.Test.YtphnpahjofacfaaLbl
namespace Go.Proofs.Ytphnpahjofacfaa
open Go.RowKit
set_option linter.unusedSimpArgs false
set_option linter.unusedVariables false

/-- How high sprites are; one's Y; whether it is on the line behind. -/
def highS (t : Bool) : Int := cond t 16 8
def yS (l : List (Int × Bool)) (i : Nat) : Int := (nth l (4 * i)).1
def onS (l : List (Int × Bool)) (line : Int) (t : Bool) (i : Nat) : Bool := decide (0 ≤ line - yS l i) && decide (line - yS l i < highS t)
/-- Those on the line, of n from k on. -/
def fromS (l : List (Int × Bool)) (line : Int) (t : Bool) : Nat → Nat → List Nat
  | 0, _ => []
  | n + 1, k => cond (onS l line t k) (k :: fromS l line t n (k + 1)) (fromS l line t n (k + 1))
def onL (l : List (Int × Bool)) (line : Int) (t : Bool) : List Nat := fromS l line t 64 0
/-- Is a Y secret, of n from k on? -/
def secF (l : List (Int × Bool)) : Nat → Nat → Bool
  | 0, _ => false
  | n + 1, k => (nth l (4 * k)).2 || secF l n (k + 1)
def secY (l : List (Int × Bool)) : Bool := secF l 64 0
theorem fromS_no (l : List (Int × Bool)) (line : Int) (t : Bool) (n k : Nat) (h : onS l line t k = false) : fromS l line t (n + 1) k = fromS l line t n (k + 1) := by
  rw [fromS, h]; rfl
theorem fromS_yes (l : List (Int × Bool)) (line : Int) (t : Bool) (n k : Nat) (h : onS l line t k = true) : fromS l line t (n + 1) k = k :: fromS l line t n (k + 1) := by
  rw [fromS, h]; rfl
theorem fromS_len (l : List (Int × Bool)) (line : Int) (t : Bool) : ∀ n k, (fromS l line t n k).length ≤ n
  | 0, k => by simp [fromS]
  | n + 1, k => by
    have := fromS_len l line t n (k + 1)
    rw [fromS]
    cases onS l line t k <;> simp <;> omega
theorem fromS_lt (l : List (Int × Bool)) (line : Int) (t : Bool) : ∀ n k, ∀ x ∈ fromS l line t n k, k ≤ x ∧ x < k + n
  | 0, k => by simp [fromS]
  | n + 1, k => by
    have ih := fromS_lt l line t n (k + 1)
    rw [fromS]
    intro x hx
    cases h : onS l line t k
    · rw [h] at hx
      have := ih x hx
      omega
    · rw [h] at hx
      rcases List.mem_cons.1 hx with rfl | hx
      · omega
      · have := ih x hx
        omega
theorem highS_lt (t : Bool) : highS t = 8 ∨ highS t = 16 := by cases t <;> simp [highS]
theorem low_i64 (x : Int) (c : Int) (k : Nat) (hk : k < 60) (hc : (BitVec.ofInt 64 c).toNat = 2 ^ k - 1) (m : Int) (hm : m = ((2 ^ k : Nat) : Int)) : bits .and .i64 x c = x % m := by
  show IntKind.i64.wrap ((BitVec.ofInt 64 x &&& BitVec.ofInt 64 c).toNat : Nat) = _
  rw [BitVec.toNat_and, hc, Nat.and_two_pow_sub_one_eq_mod, BitVec.toNat_ofInt]
  subst hm
  have hp : (2 : Nat) ^ k ∣ 2 ^ 64 := Nat.pow_dvd_pow 2 (by omega)
  have hq : (2 : Nat) ^ k ≤ 2 ^ 60 := Nat.pow_le_pow_right (by omega) (by omega)
  have h0 : 0 < 2 ^ k := Nat.two_pow_pos k
  have e : (((x % ((2 ^ 64 : Nat) : Int)).toNat % 2 ^ k : Nat) : Int) = x % ((2 ^ k : Nat) : Int) := by
    rw [Int.natCast_emod, Int.toNat_of_nonneg (Int.emod_nonneg _ (by decide)), Int.emod_emod_of_dvd _ (Int.natCast_dvd_natCast.2 hp)]
  rw [e, IntKind.wrap_i64]
  have g0 := Int.emod_nonneg x (show ((2 ^ k : Nat) : Int) ≠ 0 by omega)
  have g1 := Int.emod_lt_of_pos x (show 0 < ((2 ^ k : Nat) : Int) by omega)
  omega
theorem ands7 (x : Int) : bits .and .i64 x 7 = x % 8 := low_i64 x 7 3 (by decide) (by decide) 8 (by decide)
theorem ands15 (x : Int) : bits .and .i64 x 15 = x % 16 := low_i64 x 15 4 (by decide) (by decide) 16 (by decide)
theorem ands1 (x : Int) : bits .and .i64 x 1 = x % 2 := low_i64 x 1 1 (by decide) (by decide) 2 (by decide)
theorem notS1 (x : Int) (h0 : 0 ≤ x) (h1 : x < 256) : bits .andNot .i64 x 1 = x - x % 2 := byte_all (p := fun x => bits .andNot .i64 x 1 = x - x % 2) (by decide +kernel) x h0 h1
/-- A sprite's row; where it is. -/
def rwS (line y like : Int) (t : Bool) : Int := if like < 128 then (line - y) % highS t else highS t - 1 - (line - y) % highS t
def adrS (line y tile like : Int) (t table : Bool) : Int :=
  if t = true then tile % 2 * 4096 + 16 * (tile - tile % 2) + (if rwS line y like t < 8 then rwS line y like t else rwS line y like t + 8)
  else (if table = true then 4096 else 0) + 16 * tile + rwS line y like t
theorem rwS_lt (line y like : Int) (t : Bool) : 0 ≤ rwS line y like t ∧ rwS line y like t < highS t := by
  have h := highS_lt t
  unfold rwS
  rcases h with h | h <;> rw [h] <;> split <;> omega
theorem adrS_lt (line y tile like : Int) (t table : Bool) (h0 : 0 ≤ tile) (h1 : tile < 256) : 0 ≤ adrS line y tile like t table ∧ adrS line y tile like t table < 8192 := by
  have hr := rwS_lt line y like t
  have h := highS_lt t
  unfold adrS
  rcases h with h | h
  · cases t
    · simp only [Bool.false_eq_true, if_false]; split <;> omega
    · simp [highS] at h
  · cases t
    · simp [highS] at h
    · simp only [if_true]; split <;> omega
/-- A unit. -/
structure Un where
  x : BitVec 8
  lo : BitVec 8
  hi : BitVec 8
  tint : BitVec 8
  bh : Bool
  ze : Bool
  s : Bool
deriving DecidableEq
def unL (u : Un) : List Value := [.int .u8 (w8 u.x), .int .u8 (w8 u.lo), .int .u8 (w8 u.hi), .int .u8 (w8 u.tint), .bool u.bh, .bool u.ze, .bool u.s]
def unC (u : Un) : Array Value := ⟨unL u⟩
def un0 : Un := ⟨0, 0, 0, 0, false, false, false⟩
def turnB (b : Bool) (v : BitVec 8) : BitVec 8 := cond b v.reverse v
/-- The unit of a sprite. -/
def unitS (x like : BitVec 8) (s : Bool) (zero : Bool) (lo hi : BitVec 8) : Un := ⟨x, turnB (like.getLsbD 6) lo, turnB (like.getLsbD 6) hi, like &&& 3#8, like.getLsbD 5, zero, s⟩
/-- A unit's dot at one of its eight places; in a column. -/
def dotK (u : Un) (k : Nat) : Int := b2i (u.lo.getLsbD (7 - k)) + 2 * b2i (u.hi.getLsbD (7 - k))
def dotX (u : Un) (x : Int) : Int := if 0 ≤ x - w8 u.x ∧ x - w8 u.x < 8 then dotK u (x - w8 u.x).toNat else 0
def seenU : List Un → Int → Int × Bool × Bool
  | [], _ => (0, false, false)
  | u :: l, x => if dotX u x = 0 then seenU l x else (dotX u x + 4 * (w8 u.tint % 4), u.bh, u.ze)
def anyU : List Un → Bool
  | [] => false
  | u :: l => u.s || anyU l
theorem dotK_lt (u : Un) (k : Nat) : 0 ≤ dotK u k ∧ dotK u k < 4 := by
  unfold dotK
  have := b2i_lt (u.lo.getLsbD (7 - k))
  have := b2i_lt (u.hi.getLsbD (7 - k))
  omega
theorem dotX_lt (u : Un) (x : Int) : 0 ≤ dotX u x ∧ dotX u x < 4 := by
  unfold dotX
  split
  · exact dotK_lt _ _
  · decide
end Go.Proofs.Ytphnpahjofacfaa
