/-
  Bits of octets as plain maths: masks of one octet; what is put together by 'or'. No condition on the program.
-/
import Derived.Laws.BitsAllLaws
import Derived.WalkKit
import Derived.ProofKit
namespace Go.Proofs.Ytphnpahjofacfaa

theorem byte_all {p : Int → Prop} (h : ∀ n : Fin 256, p (n.val : Int)) (x : Int) (h0 : 0 ≤ x) (h1 : x < 256) : p x := by
  obtain ⟨n, rfl⟩ : ∃ n : Nat, x = (n : Int) := ⟨x.toNat, by omega⟩
  exact h ⟨n, by omega⟩
theorem hand12 (x : Int) (h0 : 0 ≤ x) (h1 : x < 256) : bits .and .u8 x 12 = x / 4 % 4 * 4 := byte_all (p := fun x => bits .and .u8 x 12 = x / 4 % 4 * 4) (by decide +kernel) x h0 h1
theorem hand1 (x : Int) (h0 : 0 ≤ x) (h1 : x < 256) : bits .and .u8 x 1 = x % 2 := byte_all (p := fun x => bits .and .u8 x 1 = x % 2) (by decide +kernel) x h0 h1
theorem hand2 (x : Int) (h0 : 0 ≤ x) (h1 : x < 256) : bits .and .u8 x 2 = x / 2 % 2 * 2 := byte_all (p := fun x => bits .and .u8 x 2 = x / 2 % 2 * 2) (by decide +kernel) x h0 h1
theorem hand3 (x : Int) (h0 : 0 ≤ x) (h1 : x < 256) : bits .and .u8 x 3 = x % 4 := byte_all (p := fun x => bits .and .u8 x 3 = x % 4) (by decide +kernel) x h0 h1
theorem hand4 (x : Int) (h0 : 0 ≤ x) (h1 : x < 256) : bits .and .u8 x 4 = x / 4 % 2 * 4 := byte_all (p := fun x => bits .and .u8 x 4 = x / 4 % 2 * 4) (by decide +kernel) x h0 h1
theorem hand8 (x : Int) (h0 : 0 ≤ x) (h1 : x < 256) : bits .and .u8 x 8 = x / 8 % 2 * 8 := byte_all (p := fun x => bits .and .u8 x 8 = x / 8 % 2 * 8) (by decide +kernel) x h0 h1
theorem hand15 (x : Int) (h0 : 0 ≤ x) (h1 : x < 256) : bits .and .u8 x 15 = x % 16 := byte_all (p := fun x => bits .and .u8 x 15 = x % 16) (by decide +kernel) x h0 h1
theorem hand240 (x : Int) (h0 : 0 ≤ x) (h1 : x < 256) : bits .and .u8 x 240 = x / 16 * 16 := byte_all (p := fun x => bits .and .u8 x 240 = x / 16 * 16) (by decide +kernel) x h0 h1
/-- Of two numbers that have no bit together 'or' is their sum. -/
theorem hor_i64 (i : Nat) (a b : Nat) (ha : a % 2 ^ i = 0) (hb : b < 2 ^ i) (hs : a + b < 4611686018427387904) : bits .or .i64 (a : Int) (b : Int) = ((a + b : Nat) : Int) := by
  have e : ∀ n : Nat, n < 4611686018427387904 → (BitVec.ofInt 64 (n : Int)).toNat = n := fun n hn => by
    rw [BitVec.toNat_ofInt]; omega
  show IntKind.i64.wrap ((BitVec.ofInt 64 (a : Int) ||| BitVec.ofInt 64 (b : Int)).toNat : Nat) = _
  rw [BitVec.toNat_or, e a (by omega), e b (by omega), nat_join i a b ha hb, IntKind.wrap_i64]
  omega
theorem hor_i64z (i : Nat) (m : Int) (a b : Int) (h0 : 0 ≤ a) (g0 : 0 ≤ b) (hm : m = ((2 ^ i : Nat) : Int)) (ha : a % m = 0) (hb : b < m) (hs : a + b < 4611686018427387904) : bits .or .i64 a b = a + b := by
  obtain ⟨a, rfl⟩ : ∃ n : Nat, a = (n : Int) := ⟨a.toNat, by omega⟩
  obtain ⟨b, rfl⟩ : ∃ n : Nat, b = (n : Int) := ⟨b.toNat, by omega⟩
  rw [hor_i64 i a b (by subst hm; omega) (by subst hm; omega) (by omega)]
  omega
theorem hor_u8z (i : Nat) (m : Int) (a b : Int) (h0 : 0 ≤ a) (g0 : 0 ≤ b) (hm : m = ((2 ^ i : Nat) : Int)) (ha : a % m = 0) (hb : b < m) (hs : a + b < 256) : bits .or .u8 a b = a + b := by
  obtain ⟨a, rfl⟩ : ∃ n : Nat, a = (n : Int) := ⟨a.toNat, by omega⟩
  obtain ⟨b, rfl⟩ : ∃ n : Nat, b = (n : Int) := ⟨b.toNat, by omega⟩
  rw [u8_or_nat a b (by omega) (by omega), nat_join i _ _ (by subst hm; omega) (by subst hm; omega)]
  omega
end Go.Proofs.Ytphnpahjofacfaa
