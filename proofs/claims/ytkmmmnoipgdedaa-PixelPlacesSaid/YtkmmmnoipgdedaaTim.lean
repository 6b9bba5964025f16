/-
  What is shifted out of tiles, as numbers of sixteen bits: plain maths, without any world.
-/
import Derived.Test.YtkmmmnoipgdedaaBmk
namespace Go.Proofs.Ytkmmmnoipgdedaa
open Go.RowKit
set_option linter.unusedSimpArgs false
set_option linter.unusedVariables false

/-- A number of sixteen bits, and one of eight. -/
def w16 (x : BitVec 16) : Int := (x.toNat : Int)
def w8 (x : BitVec 8) : Int := (x.toNat : Int)
theorem w16_lt (x : BitVec 16) : 0 ≤ w16 x ∧ w16 x < 65536 := by
  unfold w16
  have := x.isLt
  omega
theorem w8_lt (x : BitVec 8) : 0 ≤ w8 x ∧ w8 x < 256 := by
  unfold w8
  have := x.isLt
  omega
theorem ofInt_w16 (x : BitVec 16) : BitVec.ofInt 16 (w16 x) = x := by
  apply BitVec.eq_of_toNat_eq
  rw [BitVec.toNat_ofInt]
  unfold w16
  have := x.isLt
  omega
theorem ofInt_w8 (x : BitVec 8) : BitVec.ofInt 8 (w8 x) = x := by
  apply BitVec.eq_of_toNat_eq
  rw [BitVec.toNat_ofInt]
  unfold w8
  have := x.isLt
  omega
theorem w16_inj {x y : BitVec 16} (h : w16 x = w16 y) : x = y := by
  apply BitVec.eq_of_toNat_eq
  unfold w16 at h
  omega
theorem w8_inj {x y : BitVec 8} (h : w8 x = w8 y) : x = y := by
  apply BitVec.eq_of_toNat_eq
  unfold w8 at h
  omega
theorem w16_ex {n : Int} (h0 : 0 ≤ n) (h1 : n < 65536) : ∃ x, n = w16 x := ⟨BitVec.ofInt 16 n, by unfold w16; rw [BitVec.toNat_ofInt]; omega⟩
theorem w8_ex {n : Int} (h0 : 0 ≤ n) (h1 : n < 256) : ∃ x, n = w8 x := ⟨BitVec.ofInt 8 n, by unfold w8; rw [BitVec.toNat_ofInt]; omega⟩
theorem wr16 (x : BitVec 16) : IntKind.wrap .u16 (x.toNat : Int) = w16 x := wrap16 (by omega) (by have := x.isLt; omega)
theorem wr8 (x : BitVec 8) : IntKind.wrap .u8 (x.toNat : Int) = w8 x := by
  have := x.isLt
  rw [IntKind.wrap_u8]
  unfold w8
  omega
theorem v16_and (x y : BitVec 16) : bits .and .u16 (w16 x) (w16 y) = w16 (x &&& y) := by
  show IntKind.u16.wrap ((BitVec.ofInt 16 (w16 x) &&& BitVec.ofInt 16 (w16 y)).toNat : Nat) = _
  rw [ofInt_w16, ofInt_w16, wr16]
theorem v16_or (x y : BitVec 16) : bits .or .u16 (w16 x) (w16 y) = w16 (x ||| y) := by
  show IntKind.u16.wrap ((BitVec.ofInt 16 (w16 x) ||| BitVec.ofInt 16 (w16 y)).toNat : Nat) = _
  rw [ofInt_w16, ofInt_w16, wr16]
theorem v16_xor (x y : BitVec 16) : bits .xor .u16 (w16 x) (w16 y) = w16 (x ^^^ y) := by
  show IntKind.u16.wrap ((BitVec.ofInt 16 (w16 x) ^^^ BitVec.ofInt 16 (w16 y)).toNat : Nat) = _
  rw [ofInt_w16, ofInt_w16, wr16]
theorem v16_an (x y : BitVec 16) : bits .andNot .u16 (w16 x) (w16 y) = w16 (x &&& ~~~y) := by
  show IntKind.u16.wrap ((BitVec.ofInt 16 (w16 x) &&& ~~~(BitVec.ofInt 16 (w16 y))).toNat : Nat) = _
  rw [ofInt_w16, ofInt_w16, wr16]
theorem v8_xor (x y : BitVec 8) : bits .xor .u8 (w8 x) (w8 y) = w8 (x ^^^ y) := by
  show IntKind.u8.wrap ((BitVec.ofInt 8 (w8 x) ^^^ BitVec.ofInt 8 (w8 y)).toNat : Nat) = _
  rw [ofInt_w8, ofInt_w8, wr8]
theorem v8_and (x y : BitVec 8) : bits .and .u8 (w8 x) (w8 y) = w8 (x &&& y) := by
  show IntKind.u8.wrap ((BitVec.ofInt 8 (w8 x) &&& BitVec.ofInt 8 (w8 y)).toNat : Nat) = _
  rw [ofInt_w8, ofInt_w8, wr8]
theorem v8_or (x y : BitVec 8) : bits .or .u8 (w8 x) (w8 y) = w8 (x ||| y) := by
  show IntKind.u8.wrap ((BitVec.ofInt 8 (w8 x) ||| BitVec.ofInt 8 (w8 y)).toNat : Nat) = _
  rw [ofInt_w8, ofInt_w8, wr8]
theorem w16_255 : (255 : Int) = w16 255#16 := by decide
theorem w8_to16 (v : BitVec 8) : w8 v = w16 (v.setWidth 16) := by
  unfold w8 w16
  rw [BitVec.toNat_setWidth]
  have := v.isLt
  omega
theorem w16_to8 (v : BitVec 16) : w16 v % 256 = w8 (v.setWidth 8) := by
  unfold w8 w16
  rw [BitVec.toNat_setWidth]
  omega
theorem w16_shl1 (v : BitVec 16) : w16 v * (2 : Int) % (65536 : Int) = w16 (v <<< 1) := by
  unfold w16
  rw [BitVec.toNat_shiftLeft, Nat.shiftLeft_eq]
  omega
theorem w16_shr (v : BitVec 16) (k : Nat) : w16 v / 2 ^ k = w16 (v >>> k) := by
  unfold w16
  rw [BitVec.toNat_ushiftRight, Nat.shiftRight_eq_div_pow, Int.natCast_ediv, Int.natCast_pow]
  rfl
theorem w8_shr (v : BitVec 8) (k : Nat) : w8 v / 2 ^ k = w8 (v >>> k) := by
  unfold w8
  rw [BitVec.toNat_ushiftRight, Nat.shiftRight_eq_div_pow, Int.natCast_ediv, Int.natCast_pow]
  rfl
/-- A truth as a number. -/
def b2i (b : Bool) : Int := if b then 1 else 0
theorem b2i_lt (b : Bool) : 0 ≤ b2i b ∧ b2i b < 2 := by cases b <;> decide
theorem w16_bit (v : BitVec 16) (k : Nat) : w16 v / 2 ^ k % 2 = b2i (v.getLsbD k) := by
  unfold w16 b2i BitVec.getLsbD
  rw [Nat.testBit_eq_decide_div_mod_eq]
  have e : ((v.toNat : Int) / 2 ^ k % 2) = ((v.toNat / 2 ^ k % 2 : Nat) : Int) := by simp
  rw [e]
  have : v.toNat / 2 ^ k % 2 < 2 := Nat.mod_lt _ (by omega)
  by_cases h : v.toNat / 2 ^ k % 2 = 1
  · simp [h]
  · have h0 : v.toNat / 2 ^ k % 2 = 0 := by omega
    simp [h0]
theorem w8_bit (v : BitVec 8) (k : Nat) : w8 v / 2 ^ k % 2 = b2i (v.getLsbD k) := by
  unfold w8 b2i BitVec.getLsbD
  rw [Nat.testBit_eq_decide_div_mod_eq]
  have e : ((v.toNat : Int) / 2 ^ k % 2) = ((v.toNat / 2 ^ k % 2 : Nat) : Int) := by simp
  rw [e]
  have : v.toNat / 2 ^ k % 2 < 2 := Nat.mod_lt _ (by omega)
  by_cases h : v.toNat / 2 ^ k % 2 = 1
  · simp [h]
  · have h0 : v.toNat / 2 ^ k % 2 = 0 := by omega
    simp [h0]
theorem and1_16 (n : Int) (h0 : 0 ≤ n) (h1 : n < 65536) : bits .and .u16 n 1 = n % 2 := low16 n 1 1 2 (by decide) (by decide) h0 h1
theorem bit16 (v : BitVec 16) (k : Nat) : bits .and .u16 (w16 v / 2 ^ k) 1 = b2i (v.getLsbD k) := by
  rw [w16_shr, and1_16 _ (w16_lt _).1 (w16_lt _).2, ← w16_shr, w16_bit]
theorem and1_8 (n : Int) (h0 : 0 ≤ n) (h1 : n < 256) : bits .and .u8 n 1 = n % 2 := by
  obtain ⟨x, rfl⟩ := w8_ex h0 h1
  rw [show (1 : Int) = w8 1#8 by decide, v8_and]
  unfold w8
  rw [BitVec.toNat_and, show (1#8 : BitVec 8).toNat = 1 by decide, Nat.and_one_is_mod]
  omega
theorem bit8 (v : BitVec 8) (k : Nat) : bits .and .u8 (w8 v / 2 ^ k) 1 = b2i (v.getLsbD k) := by
  rw [w8_shr, and1_8 _ (w8_lt _).1 (w8_lt _).2, ← w8_shr, w8_bit]

theorem byte_two (v : BitVec 8) : (bits .and .u8 (w8 v) 2 != 0) = v.getLsbD 1 := by
  rw [show (2 : Int) = w8 2#8 by decide, v8_and]
  have h : ∀ v : BitVec 8, (w8 (v &&& 2#8) != 0) = v.getLsbD 1 := by decide +kernel
  exact h v
/-- Two bits of each of sixteen dots, two of their colours, and which are secret. -/
structure Ti where
  lo : BitVec 16
  hi : BitVec 16
  one : BitVec 16
  two : BitVec 16
  s : BitVec 16
deriving DecidableEq
def tiC (t : Ti) : Array Value := #[.int .u16 (w16 t.lo), .int .u16 (w16 t.hi), .int .u16 (w16 t.one), .int .u16 (w16 t.two), .int .u16 (w16 t.s)]
def ti0 : Ti := ⟨0, 0, 0, 0, 0⟩
def all8 (b : Bool) : BitVec 8 := if b then 255#8 else 0#8
def ldB (n : BitVec 16) (v : BitVec 8) : BitVec 16 := (n &&& ~~~255#16) ||| v.setWidth 16
def loadT (t : Ti) (lo hi tint : BitVec 8) (s : Bool) : Ti := ⟨ldB t.lo lo, ldB t.hi hi, ldB t.one (all8 (tint.getLsbD 0)), ldB t.two (all8 (tint.getLsbD 1)), ldB t.s (all8 s)⟩
def shlT (t : Ti) (n : Nat) : Ti := ⟨t.lo <<< n, t.hi <<< n, t.one <<< n, t.two <<< n, t.s <<< n⟩
def shiftT (t : Ti) : Ti := ⟨t.lo <<< 1, t.hi <<< 1, t.one <<< 1, t.two <<< 1, t.s <<< 1⟩
def dotT (t : Ti) (k : Nat) : Int := b2i (t.lo.getLsbD (15 - k)) + 2 * b2i (t.hi.getLsbD (15 - k)) + 4 * b2i (t.one.getLsbD (15 - k)) + 8 * b2i (t.two.getLsbD (15 - k))
def secT (t : Ti) (k : Nat) : Bool := t.s.getLsbD (15 - k)
def eraseT (t : Ti) : Ti := { t with s := 0 }
def lowT (t : Ti) : Ti := ⟨t.lo &&& ~~~t.s, t.hi &&& ~~~t.s, t.one &&& ~~~t.s, t.two &&& ~~~t.s, t.s &&& ~~~t.s⟩
def alikeT (a b : Ti) : Bool := decide (a.s = b.s) && decide (lowT a = lowT b)
theorem dotT_lt (t : Ti) (k : Nat) : 0 ≤ dotT t k ∧ dotT t k < 16 := by
  unfold dotT
  have := b2i_lt (t.lo.getLsbD (15 - k))
  have := b2i_lt (t.hi.getLsbD (15 - k))
  have := b2i_lt (t.one.getLsbD (15 - k))
  have := b2i_lt (t.two.getLsbD (15 - k))
  omega
theorem all8_bit (b : Bool) (i : Nat) (hi : i < 8) : (all8 b).getLsbD i = b := by
  cases b
  · simp [all8]
  · have h : ∀ i : Fin 8, (255#8 : BitVec 8).getLsbD i = true := by decide
    exact h ⟨i, hi⟩
theorem ldB_low (n : BitVec 16) (v : BitVec 8) (i : Nat) (hi : i < 8) : (ldB n v).getLsbD i = v.getLsbD i := by
  have h : ∀ i : Fin 8, (255#16 : BitVec 16).getLsbD i = true := by decide
  unfold ldB
  simp only [BitVec.getLsbD_or, BitVec.getLsbD_and, BitVec.getLsbD_not, BitVec.getLsbD_setWidth]
  rw [h ⟨i, hi⟩]
  simp
  omega
theorem ldB_high (n : BitVec 16) (v : BitVec 8) (i : Nat) (hi : 8 ≤ i) : (ldB n v).getLsbD i = n.getLsbD i := by
  by_cases h16 : i < 16
  · have h : ∀ i : Fin 16, 8 ≤ i.val → (255#16 : BitVec 16).getLsbD i = false := by decide
    unfold ldB
    simp only [BitVec.getLsbD_or, BitVec.getLsbD_and, BitVec.getLsbD_not, BitVec.getLsbD_setWidth]
    rw [h ⟨i, h16⟩ hi, BitVec.getLsbD_of_ge v i hi]
    simp [h16]
  · rw [BitVec.getLsbD_of_ge _ _ (by omega), BitVec.getLsbD_of_ge _ _ (by omega)]
theorem ldB_num (n : BitVec 16) (v : BitVec 8) : w16 (ldB n v) = w16 n / 256 * 256 + w8 v := by
  have e : (ldB n v).toNat = 2 ^ 8 * (n.toNat / 2 ^ 8) + v.toNat := by
    apply Nat.eq_of_testBit_eq
    intro j
    rw [Nat.testBit_two_pow_mul_add _ v.isLt, ← BitVec.getLsbD]
    split
    · rename_i h
      rw [ldB_low n v j h]
      rfl
    · rename_i h
      rw [ldB_high n v j (by omega), BitVec.getLsbD, Nat.testBit_div_two_pow, show j - 8 + 8 = j by omega]
  unfold w16 w8
  rw [e]
  simp
  omega
theorem ldB_raw (n : BitVec 16) (v : BitVec 8) : bits .or .u16 (bits .andNot .u16 (w16 n) 255) (w8 v) = w16 (ldB n v) := by
  rw [w16_255, v16_an, w8_to16, v16_or]
  rfl
theorem shlT_zero (t : Ti) : shlT t 0 = t := by simp [shlT]
theorem shlT_next (t : Ti) (n : Nat) : shiftT (shlT t n) = shlT t (n + 1) := by
  unfold shiftT shlT
  simp only [BitVec.shiftLeft_add]
theorem shlT_16 (t : Ti) : shlT t 16 = ti0 := by
  have h : ∀ x : BitVec 16, x <<< 16 = 0#16 := fun x => by
    apply BitVec.eq_of_getLsbD_eq
    intro i hi
    simp [hi]
  unfold shlT ti0
  simp only [h]
  rfl
theorem shl_bit (x : BitVec 16) (n k : Nat) (h : n + k ≤ 15) : (x <<< n).getLsbD (15 - k) = x.getLsbD (15 - (n + k)) := by
  rw [BitVec.getLsbD_shiftLeft]
  simp only [show 15 - k < 16 by omega, show ¬ (15 - k < n) by omega, decide_true, decide_false, Bool.not_false, Bool.true_and]
  congr 1
  omega
theorem dot_shl (t : Ti) (n k : Nat) (h : n + k ≤ 15) : dotT (shlT t n) k = dotT t (n + k) := by
  unfold dotT shlT
  simp only [shl_bit _ n k h]
theorem sec_shl (t : Ti) (n k : Nat) (h : n + k ≤ 15) : secT (shlT t n) k = secT t (n + k) := by
  unfold secT shlT
  simp only [shl_bit _ n k h]
theorem dot_load (t : Ti) (lo hi tint : BitVec 8) (s : Bool) (i : Nat) (h : i < 8) : dotT (loadT t lo hi tint s) (8 + i) = b2i (lo.getLsbD (7 - i)) + 2 * b2i (hi.getLsbD (7 - i)) + 4 * b2i (tint.getLsbD 0) + 8 * b2i (tint.getLsbD 1) := by
  unfold dotT loadT
  simp only [show 15 - (8 + i) = 7 - i by omega, ldB_low _ _ (7 - i) (by omega), all8_bit _ (7 - i) (by omega)]
theorem sec_load (t : Ti) (lo hi tint : BitVec 8) (s : Bool) (i : Nat) (h : i < 8) : secT (loadT t lo hi tint s) (8 + i) = s := by
  unfold secT loadT
  simp only [show 15 - (8 + i) = 7 - i by omega, ldB_low _ _ (7 - i) (by omega), all8_bit _ (7 - i) (by omega)]
theorem dot_load_old (t : Ti) (lo hi tint : BitVec 8) (s : Bool) (i : Nat) (h : i < 8) : dotT (loadT t lo hi tint s) i = dotT t i := by
  unfold dotT loadT
  simp only [ldB_high _ _ (15 - i) (by omega)]
theorem sec_load_old (t : Ti) (lo hi tint : BitVec 8) (s : Bool) (i : Nat) (h : i < 8) : secT (loadT t lo hi tint s) i = secT t i := by
  unfold secT loadT
  simp only [ldB_high _ _ (15 - i) (by omega)]
theorem erase_load (t : Ti) (lo hi tint : BitVec 8) (s : Bool) : loadT (eraseT t) lo hi tint false = eraseT (loadT t lo hi tint s) := by
  have h : ldB 0 (all8 false) = 0 := by decide
  unfold eraseT loadT
  simp only [h]
theorem erase_shift (t : Ti) : shiftT (eraseT t) = eraseT (shiftT t) := by
  have h : (0 : BitVec 16) <<< 1 = 0 := by decide
  unfold eraseT shiftT
  simp only [h]
theorem erase_erase (t : Ti) : eraseT (eraseT t) = eraseT t := rfl
theorem dot_erase (t : Ti) (k : Nat) : dotT (eraseT t) k = dotT t k := rfl
theorem sec_erase (t : Ti) (k : Nat) : secT (eraseT t) k = false := by simp [secT, eraseT]
/-- Alike, bit by bit. -/
def bitsA (a b : Ti) (i : Nat) : Bool := (a.s.getLsbD i == b.s.getLsbD i) && (a.s.getLsbD i || ((a.lo.getLsbD i == b.lo.getLsbD i) && (a.hi.getLsbD i == b.hi.getLsbD i) && (a.one.getLsbD i == b.one.getLsbD i) && (a.two.getLsbD i == b.two.getLsbD i)))
theorem low_eq {x y s : BitVec 16} : x &&& ~~~s = y &&& ~~~s ↔ ∀ i, i < 16 → s.getLsbD i = false → x.getLsbD i = y.getLsbD i := by
  constructor
  · intro h i hi hs
    have := congrArg (fun z : BitVec 16 => z.getLsbD i) h
    simpa only [BitVec.getLsbD_and, BitVec.getLsbD_not, hs, hi, decide_true, Bool.not_false, Bool.and_true] using this
  · intro h
    apply BitVec.eq_of_getLsbD_eq
    intro i hi
    have := h i hi
    rw [BitVec.getLsbD_and, BitVec.getLsbD_and]
    cases hs : s.getLsbD i
    · rw [this hs]
    · rw [BitVec.getLsbD_not, hs]
      simp
theorem alike_bits (a b : Ti) : alikeT a b = true ↔ ∀ i, i < 16 → bitsA a b i = true := by
  have hs : a.s = b.s ↔ ∀ i, i < 16 → a.s.getLsbD i = b.s.getLsbD i := ⟨fun h i _ => by rw [h], fun h => BitVec.eq_of_getLsbD_eq h⟩
  unfold alikeT bitsA lowT
  simp only [Bool.and_eq_true, decide_eq_true_eq, Ti.mk.injEq, beq_iff_eq, Bool.or_eq_true]
  constructor
  · rintro ⟨e, h1, h2, h3, h4, _⟩ i hi
    rw [← e] at h1 h2 h3 h4
    refine ⟨by rw [e], ?_⟩
    cases hb : a.s.getLsbD i
    · exact .inr ⟨⟨⟨low_eq.1 h1 i hi hb, low_eq.1 h2 i hi hb⟩, low_eq.1 h3 i hi hb⟩, low_eq.1 h4 i hi hb⟩
    · exact .inl rfl
  · intro h
    have e := hs.2 fun i hi => (h i hi).1
    refine ⟨e, ?_⟩
    rw [← e]
    refine ⟨low_eq.2 ?_, low_eq.2 ?_, low_eq.2 ?_, low_eq.2 ?_, rfl⟩
    all_goals
      intro i hi hb
      obtain ⟨_, h2⟩ := h i hi
      rw [hb] at h2
      simp only [Bool.false_eq_true, false_or] at h2
    · exact h2.1.1.1
    · exact h2.1.1.2
    · exact h2.1.2
    · exact h2.2
/-- What differs where it is secret alone. -/
def mixB (x n s : BitVec 16) : BitVec 16 := x ^^^ (n &&& s)
def mixT (t : Ti) (n : BitVec 16) : Ti := ⟨mixB t.lo n t.s, mixB t.hi n t.s, mixB t.one n t.s, mixB t.two n t.s, t.s⟩
theorem mix_bit (x n s : BitVec 16) (i : Nat) (h : s.getLsbD i = false) : (mixB x n s).getLsbD i = x.getLsbD i := by
  unfold mixB
  simp [h]
theorem mix_alike (t : Ti) (n : BitVec 16) : alikeT t (mixT t n) = true := by
  rw [alike_bits]
  intro i hi
  unfold bitsA mixT
  cases hs : t.s.getLsbD i
  · simp [mix_bit _ n t.s i hs]
  · simp
theorem mix_sec (t : Ti) (n : BitVec 16) (k : Nat) : secT (mixT t n) k = secT t k := rfl
theorem mix_dot (t : Ti) (n : BitVec 16) (k : Nat) (h : secT t k = false) : dotT (mixT t n) k = dotT t k := by
  unfold dotT mixT
  unfold secT at h
  simp only [mix_bit _ n t.s _ h]
theorem load_alike (t o : Ti) (lo hi lo2 hi2 tint : BitVec 8) (s : Bool) (h : alikeT t o = true) (hl : s = false → lo2 = lo) (hh : s = false → hi2 = hi) : alikeT (loadT t lo hi tint s) (loadT o lo2 hi2 tint s) = true := by
  rw [alike_bits] at h ⊢
  intro i hi16
  have hb := h i hi16
  by_cases h8 : i < 8
  · unfold bitsA loadT
    simp only [ldB_low _ _ i h8, all8_bit _ i h8]
    cases s
    · rw [hl rfl, hh rfl]
      simp
    · simp
  · unfold bitsA loadT
    simp only [ldB_high _ _ i (by omega)]
    exact hb
theorem shift_alike (t o : Ti) (h : alikeT t o = true) : alikeT (shiftT t) (shiftT o) = true := by
  rw [alike_bits] at h ⊢
  intro i hi
  unfold bitsA shiftT
  simp only [BitVec.getLsbD_shiftLeft, hi, decide_true, Bool.true_and]
  by_cases h1 : i < 1
  · simp [h1]
  · simp only [h1, decide_false, Bool.not_false, Bool.true_and]
    exact h (i - 1) (by omega)
end Go.Proofs.Ytkmmmnoipgdedaa
