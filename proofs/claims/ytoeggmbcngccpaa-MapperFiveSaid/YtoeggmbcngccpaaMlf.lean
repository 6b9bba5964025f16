/-
  The walk of MapperFive. Over this seat's translation; octets are from 0 to 255, addresses from 0 to 65535.
-/
import Derived.Test.YtoeggmbcngccpaaMax
import Derived.Test.YtoeggmbcngccpaaSet
import Derived.LoopN
namespace Go.Proofs.Ytoeggmbcngccpaa
open Go.RowKit
set_option linter.unusedSimpArgs false
set_option linter.unusedVariables false

theorem run_alloc_mapo (o : Oper) (h : o.op = .alloc 26) (ρ : Operand → Value) (w : World) : (execOp ρ o).run Try.prog w = .ok (.value (ptrTo w.heap.size)) (w.alloc (.cells (mpC mp0) 26)) := by
  unfold execOp
  rw [h]
  kernel_rfl
theorem or_high (a : Int) (h0 : 0 ≤ a) (h1 : a < 65536) : bits .or .u16 a 32768 = a % 32768 + 32768 := by
  obtain ⟨n, rfl⟩ : ∃ n : Nat, a = (n : Int) := ⟨a.toNat, by omega⟩
  have key : (BitVec.ofInt 16 (n : Int) ||| BitVec.ofInt 16 32768).toNat = n % 32768 + 32768 := by
    rw [BitVec.toNat_or]
    have e1 : (BitVec.ofInt 16 (n : Int)).toNat = n := by rw [BitVec.toNat_ofInt]; omega
    have e2 : (BitVec.ofInt 16 32768).toNat = 32768 := by decide
    rw [e1, e2]
    have h := Nat.two_pow_add_eq_or_of_lt (b := n % 32768) (i := 15) (by omega) 1
    by_cases hn : n < 32768
    · rw [Nat.or_comm, show n % 32768 = n by omega]
      rw [show n % 32768 = n by omega] at h
      rw [show (2 ^ 15 * 1 : Nat) = 32768 from rfl] at h
      omega
    · have e : n = 2 ^ 15 * 1 + n % 32768 := by omega
      have e3 : n ||| 32768 = n := by
        rw [e, h, Nat.or_assoc, Nat.or_comm (n % 32768), ← Nat.or_assoc, show (2 ^ 15 * 1 ||| 32768 : Nat) = 2 ^ 15 * 1 from by decide]
      omega
  show IntKind.u16.wrap ((BitVec.ofInt 16 (n : Int) ||| BitVec.ofInt 16 32768).toNat : Nat) = _
  rw [key]
  have hb : (2 : Int) ^ IntKind.u16.bits = 65536 := by decide
  simp only [IntKind.wrap, hb]
  simp [IntKind.signed]
  omega
theorem and31 (x : Int) (h0 : 0 ≤ x) (h1 : x < 256) : bits .and .u8 x 31 = x % 32 := byte_all (p := fun x => bits .and .u8 x 31 = x % 32) (by decide +kernel) x h0 h1
theorem bit_at (v : Int) (k : Int) (v0 : 0 ≤ v) (v1 : v < 256) (hk : 1 ≤ k) : bits .and .u8 (v.fdiv k) 1 = v / k % 2 := by
  rw [Int.fdiv_eq_ediv_of_nonneg v (by omega)]
  have h0 : 0 ≤ v / k := Int.ediv_nonneg v0 (by omega)
  have h1 : v / k ≤ v := Int.ediv_le_self k v0
  exact hand1 _ h0 (by omega)
theorem wrap_small (x : Int) (h0 : 0 ≤ x) (h1 : x < 9223372036854775808) : IntKind.wrap .i64 x = x := by
  rw [IntKind.wrap_i64]
  omega
/-- One bit more of a register that is written bit by bit. -/
theorem five_bit (m : Mp) (a v y L t s B A Y : Int) (i : Nat) (w : World) (hm : mayB { m with k := 1 } = true) (ok : MpOk m) (hL : 0 ≤ L ∧ L < 32) (a0 : 0 ≤ a) (a1 : a < 65536) (hA : A = bits .or .u16 a 32768) (hi : i < 5) (s0 : 0 ≤ s) (s1 : s < 32) (B0 : 0 ≤ B) (B1 : B < 2)
    (t0 : 10 ≤ t) (t1 : t ≤ 5000000000) (hy : Y = t + 2) :
    Calls Try.prog 8 #[mpV { m with k := 1, sh := s, ct := i, cl := L, la := t }, .int .u16 A, .int .u8 B, .int .i64 Y] w fun e w' => e = .returned (.tuple #[mpV (bitM { m with k := 1, sh := s, ct := i, cl := L, la := t } (a / 8192 % 4) B (t + 2)), .int .i64 0]) ∧ Below w.heap.size w w' := by
  rw [or_high a a0 a1] at hA
  subst hA hy
  have hp : (a % 32768 + 32768) / 8192 % 4 = a / 8192 % 4 := by omega
  rw [← hp]
  refine mwrite_1 { m with k := 1, sh := s, ct := i, cl := L, la := t } _ B (t + 2) w ?_ ⟨⟨s0, by show s < 256; omega⟩, ⟨by show (0:Int) ≤ i; omega, by show (i:Int) < 256; omega⟩, ⟨hL.1, by show L < 256; omega⟩, ok.se, ok.lt, ok.cn⟩ (by omega) (by omega) B0 (by omega) rfl ?_
  · unfold mayB at hm ⊢
    simp only [Bool.and_eq_true, decide_eq_true_eq] at hm ⊢
    obtain ⟨⟨⟨⟨⟨⟨⟨⟨b1, b2⟩, b3⟩, b4⟩, b5⟩, b6⟩, b7⟩, b8⟩, b9⟩ := hm
    exact ⟨⟨⟨⟨⟨⟨⟨⟨b1, s1⟩, by omega⟩, hL.2⟩, b5⟩, b6⟩, b7⟩, b8⟩, b9⟩
  · have e : wrap64 (t + 1) = t + 1 := by
      unfold wrap64
      omega
    show (t + 2 == wrap64 (t + 1)) = false
    rw [e]
    simp <;> omega
/-- What is thrown away ahead. -/
theorem five_first (m : Mp) (a y L : Int) (w : World) (hm : mayB { m with k := 1 } = true) (ok : MpOk m) (hL : m.cl % 4 + 12 + m.cl / 16 * 16 = L) (a0 : 0 ≤ a) (a1 : a < 65536) (y0 : 0 ≤ y) (y1 : y < 4294967296) :
    Calls Try.prog 8 #[.agg (mpC { m with k := 1, la := y + 10 - 3 }), .int .u16 (bits .or .u16 a 32768), .int .u8 128, .int .i64 (y + 10)] w fun e w' => e = .returned (.tuple #[.agg (mpC { m with k := 1, sh := 0, ct := 0, cl := L, la := y + 10 }), .int .i64 0]) ∧ Below w.heap.size w w' := by
  rw [or_high a a0 a1]
  have e : wrap64 (y + 10 - 3 + 1) = y + 10 - 3 + 1 := by
    unfold wrap64
    omega
  have h := mwrite_1 { m with k := 1, la := y + 10 - 3 } (a % 32768 + 32768) 128 (y + 10) w hm ⟨ok.sh, ok.ct, ok.cl, ok.se, ok.lt, ok.cn⟩ (by omega) (by omega) (by decide) (by decide) rfl (by
    show (y + 10 == wrap64 (y + 10 - 3 + 1)) = false
    rw [e]
    simp <;> omega)
  have E : ∀ p, bitM { m with k := 1, la := y + 10 - 3 } p 128 (y + 10) = { m with k := 1, sh := 0, ct := 0, cl := L, la := y + 10 } := fun p => by
    subst hL
    unfold bitM
    rw [if_pos (by decide)]
  rw [E] at h
  exact h
theorem five_step0 (m : Mp) (a v y L : Int) (w : World) (hm : mayB { m with k := 1 } = true) (ok : MpOk m) (hL : 0 ≤ L ∧ L < 32) (a0 : 0 ≤ a) (a1 : a < 65536) (v0 : 0 ≤ v) (v1 : v < 256) (y0 : 0 ≤ y) (y1 : y < 4294967296) :
    Calls Try.prog 8 #[.agg (mpC { m with k := 1, sh := 0, ct := 0, cl := L, la := y + 10 }), .int .u16 (bits .or .u16 a 32768), .int .u8 (bits .and .u8 (v.fdiv 1) 1), .int .i64 (IntKind.wrap .i64 (y + 10 + 2))] w fun e w' => e = .returned (.tuple #[.agg (mpC ({ m with k := 1, sh := v % 2, ct := 1, cl := L, la := y + 10 + 2 })), .int .i64 0]) ∧ Below w.heap.size w w' := by
  have hB := bit_at v 1 v0 v1 (by decide)
  have h := five_bit m a v y L (y + 10) (0) (bits .and .u8 (v.fdiv 1) 1) _ (IntKind.wrap .i64 (y + 10 + 2)) 0 w hm ok hL a0 a1 rfl (by decide) (by omega) (by omega) (by omega) (by omega) (by omega) (by omega) (by rw [wrap_small _ (by omega) (by omega)] <;> omega)
  have E : bitM { m with k := 1, sh := 0, ct := ((0 : Nat) : Int), cl := L, la := y + 10 } (a / 8192 % 4) (bits .and .u8 (v.fdiv 1) 1) (y + 10 + 2) = { m with k := 1, sh := v % 2, ct := 1, cl := L, la := y + 10 + 2 } := by
    rw [hB]
    unfold bitM
    rw [if_neg (by omega)]
    have e1 : putN (0) (Int.toNat ((0 : Nat) : Int)) (v / 1 % 2 % 2) = v % 2 := by
      show (0 : Int) - (0 : Int) / 1 % 2 * 1 + v / 1 % 2 % 2 * 1 = v % 2
      omega
    show (if ((0 : Nat) : Int) = 4 then _ else _) = _
    rw [if_neg (by decide)]
    have e2 : y + 10 + 2 = y + 10 + 2 := by omega
    simp only [e1, e2]
    rfl
  rw [E] at h
  exact h
theorem five_step1 (m : Mp) (a v y L : Int) (w : World) (hm : mayB { m with k := 1 } = true) (ok : MpOk m) (hL : 0 ≤ L ∧ L < 32) (a0 : 0 ≤ a) (a1 : a < 65536) (v0 : 0 ≤ v) (v1 : v < 256) (y0 : 0 ≤ y) (y1 : y < 4294967296) :
    Calls Try.prog 8 #[.agg (mpC { m with k := 1, sh := v % 2, ct := 1, cl := L, la := y + 10 + 2 }), .int .u16 (bits .or .u16 a 32768), .int .u8 (bits .and .u8 (v.fdiv 2) 1), .int .i64 (IntKind.wrap .i64 (y + 10 + 4))] w fun e w' => e = .returned (.tuple #[.agg (mpC ({ m with k := 1, sh := v % 4, ct := 2, cl := L, la := y + 10 + 4 })), .int .i64 0]) ∧ Below w.heap.size w w' := by
  have hB := bit_at v 2 v0 v1 (by decide)
  have h := five_bit m a v y L (y + 10 + 2) (v % 2) (bits .and .u8 (v.fdiv 2) 1) _ (IntKind.wrap .i64 (y + 10 + 4)) 1 w hm ok hL a0 a1 rfl (by decide) (by omega) (by omega) (by omega) (by omega) (by omega) (by omega) (by rw [wrap_small _ (by omega) (by omega)] <;> omega)
  have E : bitM { m with k := 1, sh := v % 2, ct := ((1 : Nat) : Int), cl := L, la := y + 10 + 2 } (a / 8192 % 4) (bits .and .u8 (v.fdiv 2) 1) (y + 10 + 2 + 2) = { m with k := 1, sh := v % 4, ct := 2, cl := L, la := y + 10 + 4 } := by
    rw [hB]
    unfold bitM
    rw [if_neg (by omega)]
    have e1 : putN (v % 2) (Int.toNat ((1 : Nat) : Int)) (v / 2 % 2 % 2) = v % 4 := by
      show (v % 2 : Int) - (v % 2 : Int) / 2 % 2 * 2 + v / 2 % 2 % 2 * 2 = v % 4
      omega
    show (if ((1 : Nat) : Int) = 4 then _ else _) = _
    rw [if_neg (by decide)]
    have e2 : y + 10 + 2 + 2 = y + 10 + 4 := by omega
    simp only [e1, e2]
    rfl
  rw [E] at h
  exact h
theorem five_step2 (m : Mp) (a v y L : Int) (w : World) (hm : mayB { m with k := 1 } = true) (ok : MpOk m) (hL : 0 ≤ L ∧ L < 32) (a0 : 0 ≤ a) (a1 : a < 65536) (v0 : 0 ≤ v) (v1 : v < 256) (y0 : 0 ≤ y) (y1 : y < 4294967296) :
    Calls Try.prog 8 #[.agg (mpC { m with k := 1, sh := v % 4, ct := 2, cl := L, la := y + 10 + 4 }), .int .u16 (bits .or .u16 a 32768), .int .u8 (bits .and .u8 (v.fdiv 4) 1), .int .i64 (IntKind.wrap .i64 (y + 10 + 6))] w fun e w' => e = .returned (.tuple #[.agg (mpC ({ m with k := 1, sh := v % 8, ct := 3, cl := L, la := y + 10 + 6 })), .int .i64 0]) ∧ Below w.heap.size w w' := by
  have hB := bit_at v 4 v0 v1 (by decide)
  have h := five_bit m a v y L (y + 10 + 4) (v % 4) (bits .and .u8 (v.fdiv 4) 1) _ (IntKind.wrap .i64 (y + 10 + 6)) 2 w hm ok hL a0 a1 rfl (by decide) (by omega) (by omega) (by omega) (by omega) (by omega) (by omega) (by rw [wrap_small _ (by omega) (by omega)] <;> omega)
  have E : bitM { m with k := 1, sh := v % 4, ct := ((2 : Nat) : Int), cl := L, la := y + 10 + 4 } (a / 8192 % 4) (bits .and .u8 (v.fdiv 4) 1) (y + 10 + 4 + 2) = { m with k := 1, sh := v % 8, ct := 3, cl := L, la := y + 10 + 6 } := by
    rw [hB]
    unfold bitM
    rw [if_neg (by omega)]
    have e1 : putN (v % 4) (Int.toNat ((2 : Nat) : Int)) (v / 4 % 2 % 2) = v % 8 := by
      show (v % 4 : Int) - (v % 4 : Int) / 4 % 2 * 4 + v / 4 % 2 % 2 * 4 = v % 8
      omega
    show (if ((2 : Nat) : Int) = 4 then _ else _) = _
    rw [if_neg (by decide)]
    have e2 : y + 10 + 4 + 2 = y + 10 + 6 := by omega
    simp only [e1, e2]
    rfl
  rw [E] at h
  exact h
theorem five_step3 (m : Mp) (a v y L : Int) (w : World) (hm : mayB { m with k := 1 } = true) (ok : MpOk m) (hL : 0 ≤ L ∧ L < 32) (a0 : 0 ≤ a) (a1 : a < 65536) (v0 : 0 ≤ v) (v1 : v < 256) (y0 : 0 ≤ y) (y1 : y < 4294967296) :
    Calls Try.prog 8 #[.agg (mpC { m with k := 1, sh := v % 8, ct := 3, cl := L, la := y + 10 + 6 }), .int .u16 (bits .or .u16 a 32768), .int .u8 (bits .and .u8 (v.fdiv 8) 1), .int .i64 (IntKind.wrap .i64 (y + 10 + 8))] w fun e w' => e = .returned (.tuple #[.agg (mpC ({ m with k := 1, sh := v % 16, ct := 4, cl := L, la := y + 10 + 8 })), .int .i64 0]) ∧ Below w.heap.size w w' := by
  have hB := bit_at v 8 v0 v1 (by decide)
  have h := five_bit m a v y L (y + 10 + 6) (v % 8) (bits .and .u8 (v.fdiv 8) 1) _ (IntKind.wrap .i64 (y + 10 + 8)) 3 w hm ok hL a0 a1 rfl (by decide) (by omega) (by omega) (by omega) (by omega) (by omega) (by omega) (by rw [wrap_small _ (by omega) (by omega)] <;> omega)
  have E : bitM { m with k := 1, sh := v % 8, ct := ((3 : Nat) : Int), cl := L, la := y + 10 + 6 } (a / 8192 % 4) (bits .and .u8 (v.fdiv 8) 1) (y + 10 + 6 + 2) = { m with k := 1, sh := v % 16, ct := 4, cl := L, la := y + 10 + 8 } := by
    rw [hB]
    unfold bitM
    rw [if_neg (by omega)]
    have e1 : putN (v % 8) (Int.toNat ((3 : Nat) : Int)) (v / 8 % 2 % 2) = v % 16 := by
      show (v % 8 : Int) - (v % 8 : Int) / 8 % 2 * 8 + v / 8 % 2 % 2 * 8 = v % 16
      omega
    show (if ((3 : Nat) : Int) = 4 then _ else _) = _
    rw [if_neg (by decide)]
    have e2 : y + 10 + 6 + 2 = y + 10 + 8 := by omega
    simp only [e1, e2]
    rfl
  rw [E] at h
  exact h
theorem five_step4 (m : Mp) (a v y L : Int) (w : World) (hm : mayB { m with k := 1 } = true) (ok : MpOk m) (hL : 0 ≤ L ∧ L < 32) (a0 : 0 ≤ a) (a1 : a < 65536) (v0 : 0 ≤ v) (v1 : v < 256) (y0 : 0 ≤ y) (y1 : y < 4294967296) :
    Calls Try.prog 8 #[.agg (mpC { m with k := 1, sh := v % 16, ct := 4, cl := L, la := y + 10 + 8 }), .int .u16 (bits .or .u16 a 32768), .int .u8 (bits .and .u8 (v.fdiv 16) 1), .int .i64 (IntKind.wrap .i64 (y + 10 + 10))] w fun e w' => e = .returned (.tuple #[.agg (mpC (fillM { m with k := 1, sh := v % 32, ct := 5, cl := L, la := y + 10 + 10 } (a / 8192 % 4))), .int .i64 0]) ∧ Below w.heap.size w w' := by
  have hB := bit_at v 16 v0 v1 (by decide)
  have h := five_bit m a v y L (y + 10 + 8) (v % 16) (bits .and .u8 (v.fdiv 16) 1) _ (IntKind.wrap .i64 (y + 10 + 10)) 4 w hm ok hL a0 a1 rfl (by decide) (by omega) (by omega) (by omega) (by omega) (by omega) (by omega) (by rw [wrap_small _ (by omega) (by omega)] <;> omega)
  have E : bitM { m with k := 1, sh := v % 16, ct := ((4 : Nat) : Int), cl := L, la := y + 10 + 8 } (a / 8192 % 4) (bits .and .u8 (v.fdiv 16) 1) (y + 10 + 8 + 2) = fillM { m with k := 1, sh := v % 32, ct := 5, cl := L, la := y + 10 + 10 } (a / 8192 % 4) := by
    rw [hB]
    unfold bitM
    rw [if_neg (by omega)]
    have e1 : putN (v % 16) (Int.toNat ((4 : Nat) : Int)) (v / 16 % 2 % 2) = v % 32 := by
      show (v % 16 : Int) - (v % 16 : Int) / 16 % 2 * 16 + v / 16 % 2 % 2 * 16 = v % 32
      omega
    show (if ((4 : Nat) : Int) = 4 then _ else _) = _
    rw [if_pos (by decide)]
    have e2 : y + 10 + 8 + 2 = y + 10 + 10 := by omega
    simp only [e1, e2]
    rfl
  rw [E] at h
  exact h
set_option maxHeartbeats 8000000 in
theorem five_yes (c : Crt) (m : Mp) (a v u : Int) (b : Bool) (w : World) (ok : MpOk m) (a0 : 0 ≤ a) (a1 : a < 65536) (v0 : 0 ≤ v) (v1 : v < 256) (hm : mayB { m with k := 1 } = true) :
    Calls Try.prog 3 #[.agg (askC c m a v u b)] w fun e w' => e = .returned (.bool true) ∧ Below w.heap.size w w' := by
  have QC := Lib.hid (fun wr => mcheck_yes { m with k := 1 } hm wr)
  have QA := Lib.hid (fun wr => mawake_ct wr)
  have HZ := Lib.hid alloc_map
  obtain ⟨y, hy⟩ : ∃ y, u % 4294967296 = y := ⟨_, rfl⟩
  have y0 : 0 ≤ y := by omega
  have y1 : y < 4294967296 := by omega
  obtain ⟨L, hL⟩ : ∃ L, m.cl % 4 + 12 + m.cl / 16 * 16 = L := ⟨_, rfl⟩
  have b3 : m.cl < 32 := (mayB_bits hm).2.2
  have c0 := ok.cl.1
  have hL12 : bits .and .u8 L 12 = 12 := by rw [hand12 L (by omega) (by omega)]; omega
  have QF := Lib.hid (fun wr => five_first m a y L wr hm ok hL a0 a1 y0 y1)
  have hLb : 0 ≤ L ∧ L < 32 := by omega
  have Q0 := Lib.hid (fun wr => five_step0 m a v y L wr hm ok hLb a0 a1 v0 v1 y0 y1)
  have Q1 := Lib.hid (fun wr => five_step1 m a v y L wr hm ok hLb a0 a1 v0 v1 y0 y1)
  have Q2 := Lib.hid (fun wr => five_step2 m a v y L wr hm ok hLb a0 a1 v0 v1 y0 y1)
  have Q3 := Lib.hid (fun wr => five_step3 m a v y L wr hm ok hLb a0 a1 v0 v1 y0 y1)
  have Q4 := Lib.hid (fun wr => five_step4 m a v y L wr hm ok hLb a0 a1 v0 v1 y0 y1)
  have EE := Lib.hid (fun M W => mp_eql M W)
  have eg : Try.prog.eqGuardType Try.prog.depth 26 = false := by kernel_rfl
  have h31 := and31 v v0 v1
  have hpl := and_u16 (a / 8192) 2 3 4 (by decide) (by decide) (by omega) (by omega)
  have HP := Lib.hid (show a / 8192 % 4 = 0 ∨ a / 8192 % 4 = 1 ∨ a / 8192 % 4 = 2 ∨ a / 8192 % 4 = 3 by omega)
  obtain ⟨p, hp⟩ : ∃ p, a / 8192 % 4 = p := ⟨_, rfl⟩
  rw [hp] at hpl HP
  simp only [hp] at Q4
  obtain ⟨s, hs⟩ : ∃ s, v % 32 = s := ⟨_, rfl⟩
  rw [hs] at h31
  simp only [hs] at Q4
  clear hp hs hm ok hL b3 c0 hLb a0 a1 v0 v1
  have H := Mem.start w
  go_enter Try.func3, Try.ntmps3
  go_wp2_with (first
    | go_skip | (refine wpList_mboxA rfl _ _ rfl H _ rfl ?_; clear H; intro R1 w1 _ H)
    | fail)
  refine wp_region_settled (by kernel_rfl) (by kernel_rfl) (fun q => [(some 16, .pointer (some ⟨R1, 9, none⟩)), (some 17, .agg (mpC m)), (some 18, .pointer (some ⟨R1, 37, none⟩)), (some 19, .int .u8 v), (some 20, .pointer (some ⟨R1, 36, none⟩)), (some 21, .int .u16 a), (some 22, .pointer (some ⟨R1, 38, none⟩)), (some 23, .int .i64 u), (some 24, .int .u32 (u % 4294967296)), (some 3, .pointer (some ⟨q, 0, none⟩)), (none, undef), (some 4, .int .u8 v), (some 5, .int .u16 a), (some 6, .int .u32 (u % 4294967296))]) (WBox _ _ _ 9 10 (mpC mp0) (mpC m) _) 112 (by rfl) (fun _ => by rfl) (fun _ => by rfl) (fun _ => by rfl) (WBox.start H) ⟨?p0, ?p1, ?p2, ?p3, ?p4, ?p5, ?p6, ?p7, ?p8, ?p9, ?p10, ?p11, ?p12, ?p13, trivial⟩ ?_
  case p0 =>
    intro D q a' w' hk he hl hW
    have e : a'.tmps.getD 1 undef = .pointer (some ⟨R1, 0, none⟩) := (hl 1).trans ((lookS_absent _ 0 (by simp)).trans rfl)
    exact wp_val (.pointer (some ⟨R1, 9, none⟩)) (by simp only [execOp, Act.eval]; rw [e]; kernel_rfl) ⟨q, fun _ => rfl, ⟨_, rfl, rfl⟩, hW.keep (by decide) (by decide)⟩
  case p1 =>
    intro D q a' w' hk he hl hW
    have e0 := (hl 16).trans (lookS_at rfl (he ⟨0, .data⟩ (by simp) rfl) rfl)
    exact wp_sload _ _ rfl _ _ e0 0 hW.base _ (mpC m) rfl (by decide +kernel) (by kernel_rfl) (ask_part c m a v u b) ⟨q, fun _ => rfl, ⟨_, rfl, rfl⟩, hW.keep (by decide) (by decide)⟩
  case p2 =>
    intro D q a' w' hk he hl hW
    have e : a'.tmps.getD 1 undef = .pointer (some ⟨R1, 0, none⟩) := (hl 1).trans ((lookS_absent _ 0 (by simp)).trans rfl)
    exact wp_val (.pointer (some ⟨R1, 37, none⟩)) (by simp only [execOp, Act.eval]; rw [e]; kernel_rfl) ⟨q, fun _ => rfl, ⟨_, rfl, rfl⟩, hW.keep (by decide) (by decide)⟩
  case p3 =>
    intro D q a' w' hk he hl hW
    have e2 := (hl 18).trans (lookS_at rfl (he ⟨2, .data⟩ (by simp) rfl) rfl)
    exact wp_sload1 _ _ rfl _ _ e2 0 hW.base _ (.int .u8 v) rfl rfl (by decide +kernel) ⟨q, fun _ => rfl, ⟨_, rfl, rfl⟩, hW.keep (by decide) (by decide)⟩
  case p4 =>
    intro D q a' w' hk he hl hW
    have e : a'.tmps.getD 1 undef = .pointer (some ⟨R1, 0, none⟩) := (hl 1).trans ((lookS_absent _ 0 (by simp)).trans rfl)
    exact wp_val (.pointer (some ⟨R1, 36, none⟩)) (by simp only [execOp, Act.eval]; rw [e]; kernel_rfl) ⟨q, fun _ => rfl, ⟨_, rfl, rfl⟩, hW.keep (by decide) (by decide)⟩
  case p5 =>
    intro D q a' w' hk he hl hW
    have e4 := (hl 20).trans (lookS_at rfl (he ⟨4, .data⟩ (by simp) rfl) rfl)
    exact wp_sload1 _ _ rfl _ _ e4 0 hW.base _ (.int .u16 a) rfl rfl (by decide +kernel) ⟨q, fun _ => rfl, ⟨_, rfl, rfl⟩, hW.keep (by decide) (by decide)⟩
  case p6 =>
    intro D q a' w' hk he hl hW
    have e : a'.tmps.getD 1 undef = .pointer (some ⟨R1, 0, none⟩) := (hl 1).trans ((lookS_absent _ 0 (by simp)).trans rfl)
    exact wp_val (.pointer (some ⟨R1, 38, none⟩)) (by simp only [execOp, Act.eval]; rw [e]; kernel_rfl) ⟨q, fun _ => rfl, ⟨_, rfl, rfl⟩, hW.keep (by decide) (by decide)⟩
  case p7 =>
    intro D q a' w' hk he hl hW
    have e6 := (hl 22).trans (lookS_at rfl (he ⟨6, .data⟩ (by simp) rfl) rfl)
    exact wp_sload1 _ _ rfl _ _ e6 0 hW.base _ (.int .i64 u) rfl rfl (by decide +kernel) ⟨q, fun _ => rfl, ⟨_, rfl, rfl⟩, hW.keep (by decide) (by decide)⟩
  case p8 =>
    intro D q a' w' hk he hl hW
    have e7 := (hl 23).trans (lookS_at rfl (he ⟨7, .data⟩ (by simp) rfl) rfl)
    exact wp_val (.int .u32 (u % 4294967296)) (by simp only [execOp, Act.eval]; rw [e7]; kernel_rfl) ⟨q, fun _ => rfl, ⟨_, rfl, rfl⟩, hW.keep (by decide) (by decide)⟩
  case p9 =>
    intro D q a' w' hk he hl hW
    exact wp_salloc _ rfl hW.base (mpC mp0) alloc_map fun q1 w1 hM => ⟨q1, fun j => by simp only [lookS, hk, Bool.false_eq_true, if_false], ⟨_, rfl, rfl⟩, hW.alloc hk (by decide) hM⟩
  case p10 =>
    intro D q a' w' hk he hl hW
    have e9 := (hl 3).trans (lookS_at rfl (he ⟨9, .data⟩ (by simp) rfl) rfl)
    have e1 := (hl 17).trans (lookS_at rfl (he ⟨1, .data⟩ (by simp) rfl) rfl)
    exact wp_sstoreA _ _ _ rfl rfl q e9 0 (hW.on (he ⟨9, .data⟩ (by simp) rfl) hk) (mpC mp0) (mpC m) rfl e1 (by kernel_rfl) (by kernel_rfl) (by kernel_rfl) fun w1 hM => ⟨q, fun _ => rfl, ⟨undef, rfl, rfl⟩, WBox.store (he ⟨9, .data⟩ (by simp) rfl) hM⟩
  case p11 =>
    intro D q a' w' hk he hl hW
    have e3 := (hl 19).trans (lookS_at rfl (he ⟨3, .data⟩ (by simp) rfl) rfl)
    exact wp_val (.int .u8 v) (by simp only [execOp, Act.eval]; rw [e3]; kernel_rfl) ⟨q, fun _ => rfl, ⟨_, rfl, rfl⟩, hW.keep (by decide) (by decide)⟩
  case p12 =>
    intro D q a' w' hk he hl hW
    have e5 := (hl 21).trans (lookS_at rfl (he ⟨5, .data⟩ (by simp) rfl) rfl)
    exact wp_val (.int .u16 a) (by simp only [execOp, Act.eval]; rw [e5]; kernel_rfl) ⟨q, fun _ => rfl, ⟨_, rfl, rfl⟩, hW.keep (by decide) (by decide)⟩
  case p13 =>
    intro D q a' w' hk he hl hW
    have e8 := (hl 24).trans (lookS_at rfl (he ⟨8, .data⟩ (by simp) rfl) rfl)
    exact wp_val (.int .u32 (u % 4294967296)) (by simp only [execOp, Act.eval]; rw [e8]; kernel_rfl) ⟨q, fun _ => rfl, ⟨_, rfl, rfl⟩, hW.keep (by decide) (by decide)⟩
  intro D q' w' hD hW
  clear H
  have H := hW.done (hD 9 (by decide)) (hD 10 (by decide))
  clear hD hW
  simp only [putAll, List.foldl_cons, List.foldl_nil, Act.put, List.setIfInBounds_toArray, List.set_cons_succ, List.set_cons_zero]
  simp only [hy]
  clear hy
  go_wp2_with (first
    | (go_at_call 6; (with_reducible refine (QC.out _).mono ?_); rintro e w2 ⟨rfl, hB⟩; replace H := H.next hB; clear hB)
    | (go_at_call 8; (with_reducible refine (QF.out _).mono ?_); rintro e w2 ⟨rfl, hB⟩; replace H := H.next hB; clear hB)
    | go_skip | (refine wpList_mboxA rfl _ _ rfl H _ rfl ?_; clear H; intro _ w1 _ H) | (refine gate_load _ _ rfl ?_; first | (refine wpList_mloadA rfl _ _ rfl _ rfl 0 H _ rfl (by decide +kernel) (by kernel_rfl) ?_) | (refine wpList_mloadA rfl _ _ rfl _ rfl 1 H _ rfl (by decide +kernel) (by kernel_rfl) ?_) | (refine wpList_mloadA rfl _ _ rfl _ rfl 2 H _ rfl (by decide +kernel) (by kernel_rfl) ?_) | (refine wpList_mload1 rfl _ _ rfl _ _ rfl 0 H _ (.int _ _) rfl rfl (by decide +kernel) ?_) | (refine wpList_mload1 rfl _ _ rfl _ _ rfl 1 H _ (.int _ _) rfl rfl (by decide +kernel) ?_) | (refine wpList_mload1 rfl _ _ rfl _ _ rfl 2 H _ (.int _ _) rfl rfl (by decide +kernel) ?_) | (refine wpList_mload1 rfl _ _ rfl _ _ rfl 0 H _ (.bool _) rfl rfl (by decide +kernel) ?_) | (refine wpList_mload1 rfl _ _ rfl _ _ rfl 1 H _ (.bool _) rfl rfl (by decide +kernel) ?_) | (refine wpList_mload1 rfl _ _ rfl _ _ rfl 2 H _ (.bool _) rfl rfl (by decide +kernel) ?_) | (refine wpList_mload1 rfl _ _ rfl _ _ rfl 0 H _ (.pointer _) rfl rfl (by decide +kernel) ?_) | (refine wpList_mload1 rfl _ _ rfl _ _ rfl 1 H _ (.pointer _) rfl rfl (by decide +kernel) ?_) | (refine wpList_mload1 rfl _ _ rfl _ _ rfl 2 H _ (.pointer _) rfl rfl (by decide +kernel) ?_) | (refine wpList_mload1 rfl _ _ rfl _ _ rfl 0 H _ (.string _) rfl rfl (by decide +kernel) ?_) | (refine wpList_mload1 rfl _ _ rfl _ _ rfl 1 H _ (.string _) rfl rfl (by decide +kernel) ?_) | (refine wpList_mload1 rfl _ _ rfl _ _ rfl 2 H _ (.string _) rfl rfl (by decide +kernel) ?_) | (refine wpList_mload1 rfl _ _ rfl _ _ rfl 0 H _ (.slice _ _ _) rfl rfl (by decide +kernel) ?_) | (refine wpList_mload1 rfl _ _ rfl _ _ rfl 1 H _ (.slice _ _ _) rfl rfl (by decide +kernel) ?_) | (refine wpList_mload1 rfl _ _ rfl _ _ rfl 2 H _ (.slice _ _ _) rfl rfl (by decide +kernel) ?_)) | (refine gate_store _ _ _ rfl ?_; (first | (refine wpList_mstoreA rfl _ _ _ rfl rfl _ rfl 0 H _ _ rfl rfl (by kernel_rfl) (by kernel_rfl) (by kernel_rfl) ?_) | (refine wpList_mstoreA rfl _ _ _ rfl rfl _ rfl 1 H _ _ rfl rfl (by kernel_rfl) (by kernel_rfl) (by kernel_rfl) ?_) | (refine wpList_mstoreA rfl _ _ _ rfl rfl _ rfl 2 H _ _ rfl rfl (by kernel_rfl) (by kernel_rfl) (by kernel_rfl) ?_) | (refine wpList_mstore rfl _ _ _ rfl rfl _ _ rfl 0 H _ _ rfl (.int _ _) rfl (by kernel_rfl) (of_decide_eq_true (by kernel_rfl)) (by kernel_rfl) rfl ?_) | (refine wpList_mstore rfl _ _ _ rfl rfl _ _ rfl 1 H _ _ rfl (.int _ _) rfl (by kernel_rfl) (of_decide_eq_true (by kernel_rfl)) (by kernel_rfl) rfl ?_) | (refine wpList_mstore rfl _ _ _ rfl rfl _ _ rfl 2 H _ _ rfl (.int _ _) rfl (by kernel_rfl) (of_decide_eq_true (by kernel_rfl)) (by kernel_rfl) rfl ?_) | (refine wpList_mstore rfl _ _ _ rfl rfl _ _ rfl 0 H _ _ rfl (.bool _) rfl (by kernel_rfl) (of_decide_eq_true (by kernel_rfl)) (by kernel_rfl) rfl ?_) | (refine wpList_mstore rfl _ _ _ rfl rfl _ _ rfl 1 H _ _ rfl (.bool _) rfl (by kernel_rfl) (of_decide_eq_true (by kernel_rfl)) (by kernel_rfl) rfl ?_) | (refine wpList_mstore rfl _ _ _ rfl rfl _ _ rfl 2 H _ _ rfl (.bool _) rfl (by kernel_rfl) (of_decide_eq_true (by kernel_rfl)) (by kernel_rfl) rfl ?_) | (refine wpList_mstore rfl _ _ _ rfl rfl _ _ rfl 0 H _ _ rfl (.pointer _) rfl (by kernel_rfl) (of_decide_eq_true (by kernel_rfl)) (by kernel_rfl) rfl ?_) | (refine wpList_mstore rfl _ _ _ rfl rfl _ _ rfl 1 H _ _ rfl (.pointer _) rfl (by kernel_rfl) (of_decide_eq_true (by kernel_rfl)) (by kernel_rfl) rfl ?_) | (refine wpList_mstore rfl _ _ _ rfl rfl _ _ rfl 2 H _ _ rfl (.pointer _) rfl (by kernel_rfl) (of_decide_eq_true (by kernel_rfl)) (by kernel_rfl) rfl ?_) | (refine wpList_mstore rfl _ _ _ rfl rfl _ _ rfl 0 H _ _ rfl (.string _) rfl (by kernel_rfl) (of_decide_eq_true (by kernel_rfl)) (by kernel_rfl) rfl ?_) | (refine wpList_mstore rfl _ _ _ rfl rfl _ _ rfl 1 H _ _ rfl (.string _) rfl (by kernel_rfl) (of_decide_eq_true (by kernel_rfl)) (by kernel_rfl) rfl ?_) | (refine wpList_mstore rfl _ _ _ rfl rfl _ _ rfl 2 H _ _ rfl (.string _) rfl (by kernel_rfl) (of_decide_eq_true (by kernel_rfl)) (by kernel_rfl) rfl ?_) | (refine wpList_mstore rfl _ _ _ rfl rfl _ _ rfl 0 H _ _ rfl (.slice _ _ _) rfl (by kernel_rfl) (of_decide_eq_true (by kernel_rfl)) (by kernel_rfl) rfl ?_) | (refine wpList_mstore rfl _ _ _ rfl rfl _ _ rfl 1 H _ _ rfl (.slice _ _ _) rfl (by kernel_rfl) (of_decide_eq_true (by kernel_rfl)) (by kernel_rfl) rfl ?_) | (refine wpList_mstore rfl _ _ _ rfl rfl _ _ rfl 2 H _ _ rfl (.slice _ _ _) rfl (by kernel_rfl) (of_decide_eq_true (by kernel_rfl)) (by kernel_rfl) rfl ?_)); clear H; intro w1 H; simp only [List.set_cons_zero, List.set_cons_succ, mp_all, mp_set0, mp_set9] at H)
    | (refine wpList_mnew rfl _ rfl H _ HZ.out ?_; clear H; intro _ w1 _ H)
    | fail)
  replace H := H.sub (List.Sublist.cons_cons _ (List.Sublist.cons_cons _ (List.nil_sublist _)))
  clear QC QF
  refine wp_loop_rounds (5 + 1) ?_
  rw [rounds_succ]
  go_wp2_with fail
  refine wp_region_settled (by kernel_rfl) (by kernel_rfl) (fun q => [(some 52, .agg (mpC { m with k := 1, sh := 0, ct := 0, cl := L, la := y + 10 })), (some 53, .int .u16 a), (some 54, .int .u16 (bits .or .u16 a 32768)), (some 55, .int .u8 v), (some 56, .int .i64 0), (some 57, .int .u8 (v.fdiv 1)), (some 58, .int .u8 (bits .and .u8 (v.fdiv 1) 1)), (some 59, .int .i64 (y + 10)), (some 60, .int .i64 0), (some 61, .int .i64 1), (some 62, .int .i64 2), (some 63, .int .i64 (IntKind.wrap .i64 (y + 10 + 2))), (some 64, .tuple #[.agg (mpC ({ m with k := 1, sh := v % 2, ct := 1, cl := L, la := y + 10 + 2 })), .int .i64 0]), (some 51, .tuple #[.agg (mpC ({ m with k := 1, sh := v % 2, ct := 1, cl := L, la := y + 10 + 2 })), .int .i64 0]), (some 65, .agg (mpC ({ m with k := 1, sh := v % 2, ct := 1, cl := L, la := y + 10 + 2 }))), (some 66, .int .i64 0), (some 12, .pointer (some ⟨q, 0, none⟩)), (none, undef), (some 13, .int .i64 0)]) (WBox _ _ _ 16 17 (mpC mp0) (mpC ({ m with k := 1, sh := v % 2, ct := 1, cl := L, la := y + 10 + 2 })) _) 112 (by rfl) (fun _ => by rfl) (fun _ => by rfl) (fun _ => by rfl) (WBox.start H) ⟨?p0, ?p1, ?p2, ?p3, ?p4, ?p5, ?p6, ?p7, ?p8, ?p9, ?p10, ?p11, ?p12, ?p13, ?p14, ?p15, ?p16, ?p17, ?p18, trivial⟩ ?_
  case p0 =>
    intro D q a' w' hk he hl hW
    have e := (hl 8).trans (lookS_absent _ 0 (by simp))
    exact wp_sload _ _ rfl _ 0 e 1 hW.base (mpC { m with k := 1, sh := 0, ct := 0, cl := L, la := y + 10 }) (mpC { m with k := 1, sh := 0, ct := 0, cl := L, la := y + 10 }) rfl (by decide +kernel) (by kernel_rfl) (fun j v hj => by rw [Nat.zero_add]; exact hj) ⟨q, fun _ => rfl, ⟨_, rfl, rfl⟩, hW.keep (by decide) (by decide)⟩
  case p1 =>
    intro D q a' w' hk he hl hW
    have f5 : a'.tmps.getD 5 undef = .int .u16 a := (hl 5).trans ((lookS_absent _ 0 (by simp)).trans rfl)
    exact wp_val (.int .u16 a) (by simp only [execOp, Act.eval]; rw [f5]; kernel_rfl) ⟨q, fun _ => rfl, ⟨_, rfl, rfl⟩, hW.keep (by decide) (by decide)⟩
  case p2 =>
    intro D q a' w' hk he hl hW
    have e1 := (hl 53).trans (lookS_at rfl (he ⟨1, .data⟩ (by simp) rfl) rfl)
    exact wp_val (.int .u16 (bits .or .u16 a 32768)) (by simp only [execOp, Act.eval]; rw [e1]; kernel_rfl) ⟨q, fun _ => rfl, ⟨_, rfl, rfl⟩, hW.keep (by decide) (by decide)⟩
  case p3 =>
    intro D q a' w' hk he hl hW
    have f4 : a'.tmps.getD 4 undef = .int .u8 v := (hl 4).trans ((lookS_absent _ 0 (by simp)).trans rfl)
    exact wp_val (.int .u8 v) (by simp only [execOp, Act.eval]; rw [f4]; kernel_rfl) ⟨q, fun _ => rfl, ⟨_, rfl, rfl⟩, hW.keep (by decide) (by decide)⟩
  case p4 =>
    intro D q a' w' hk he hl hW
    have f11 : a'.tmps.getD 11 undef = .int .i64 0 := (hl 11).trans ((lookS_absent _ 0 (by simp)).trans rfl)
    exact wp_val (.int .i64 0) (by simp only [execOp, Act.eval]; rw [f11]; kernel_rfl) ⟨q, fun _ => rfl, ⟨_, rfl, rfl⟩, hW.keep (by decide) (by decide)⟩
  case p5 =>
    intro D q a' w' hk he hl hW
    have e3 := (hl 55).trans (lookS_at rfl (he ⟨3, .data⟩ (by simp) rfl) rfl)
    have e4 := (hl 56).trans (lookS_at rfl (he ⟨4, .data⟩ (by simp) rfl) rfl)
    exact wp_val (.int .u8 (v.fdiv 1)) (by simp only [execOp, Act.eval]; rw [e3, e4]; kernel_rfl) ⟨q, fun _ => rfl, ⟨_, rfl, rfl⟩, hW.keep (by decide) (by decide)⟩
  case p6 =>
    intro D q a' w' hk he hl hW
    have e5 := (hl 57).trans (lookS_at rfl (he ⟨5, .data⟩ (by simp) rfl) rfl)
    exact wp_val (.int .u8 (bits .and .u8 (v.fdiv 1) 1)) (by simp only [execOp, Act.eval]; rw [e5]; kernel_rfl) ⟨q, fun _ => rfl, ⟨_, rfl, rfl⟩, hW.keep (by decide) (by decide)⟩
  case p7 =>
    intro D q a' w' hk he hl hW
    have f7 : a'.tmps.getD 7 undef = .int .i64 (y + 10) := (hl 7).trans ((lookS_absent _ 0 (by simp)).trans rfl)
    exact wp_val (.int .i64 (y + 10)) (by simp only [execOp, Act.eval]; rw [f7]; kernel_rfl) ⟨q, fun _ => rfl, ⟨_, rfl, rfl⟩, hW.keep (by decide) (by decide)⟩
  case p8 =>
    intro D q a' w' hk he hl hW
    have f11 : a'.tmps.getD 11 undef = .int .i64 0 := (hl 11).trans ((lookS_absent _ 0 (by simp)).trans rfl)
    exact wp_val (.int .i64 0) (by simp only [execOp, Act.eval]; rw [f11]; kernel_rfl) ⟨q, fun _ => rfl, ⟨_, rfl, rfl⟩, hW.keep (by decide) (by decide)⟩
  case p9 =>
    intro D q a' w' hk he hl hW
    have e8 := (hl 60).trans (lookS_at rfl (he ⟨8, .data⟩ (by simp) rfl) rfl)
    exact wp_val (.int .i64 1) (by simp only [execOp, Act.eval]; rw [e8]; kernel_rfl) ⟨q, fun _ => rfl, ⟨_, rfl, rfl⟩, hW.keep (by decide) (by decide)⟩
  case p10 =>
    intro D q a' w' hk he hl hW
    have e9 := (hl 61).trans (lookS_at rfl (he ⟨9, .data⟩ (by simp) rfl) rfl)
    exact wp_val (.int .i64 2) (by simp only [execOp, Act.eval]; rw [e9]; kernel_rfl) ⟨q, fun _ => rfl, ⟨_, rfl, rfl⟩, hW.keep (by decide) (by decide)⟩
  case p11 =>
    intro D q a' w' hk he hl hW
    have e7 := (hl 59).trans (lookS_at rfl (he ⟨7, .data⟩ (by simp) rfl) rfl)
    have e10 := (hl 62).trans (lookS_at rfl (he ⟨10, .data⟩ (by simp) rfl) rfl)
    exact wp_val (.int .i64 (IntKind.wrap .i64 (y + 10 + 2))) (by simp only [execOp, Act.eval]; rw [e7, e10]; kernel_rfl) ⟨q, fun _ => rfl, ⟨_, rfl, rfl⟩, hW.keep (by decide) (by decide)⟩
  case p12 =>
    intro D q a' w' hk he hl hW
    have e0 := (hl 52).trans (lookS_at rfl (he ⟨0, .data⟩ (by simp) rfl) rfl)
    have e2 := (hl 54).trans (lookS_at rfl (he ⟨2, .data⟩ (by simp) rfl) rfl)
    have e6 := (hl 58).trans (lookS_at rfl (he ⟨6, .data⟩ (by simp) rfl) rfl)
    have e11 := (hl 63).trans (lookS_at rfl (he ⟨11, .data⟩ (by simp) rfl) rfl)
    exact wp_callf (vals := #[.agg (mpC { m with k := 1, sh := 0, ct := 0, cl := L, la := y + 10 }), .int .u16 (bits .or .u16 a 32768), .int .u8 (bits .and .u8 (v.fdiv 1) 1), .int .i64 (IntKind.wrap .i64 (y + 10 + 2))]) rfl rfl (by simp only [List.map_toArray, List.map_cons, List.map_nil, Act.eval, e0, e2, e6, e11]) (by kernel_rfl) (Q0.out _) fun w1 hB => ⟨q, fun _ => rfl, ⟨_, rfl, rfl⟩, (hW.next hB).keep (by decide) (by decide)⟩
  case p13 =>
    intro D q a' w' hk he hl hW
    have e12 := (hl 64).trans (lookS_at rfl (he ⟨12, .data⟩ (by simp) rfl) rfl)
    exact wp_val (.tuple #[.agg (mpC ({ m with k := 1, sh := v % 2, ct := 1, cl := L, la := y + 10 + 2 })), .int .i64 0]) (by simp only [execOp, Act.eval]; rw [e12]; kernel_rfl) ⟨q, fun _ => rfl, ⟨_, rfl, rfl⟩, hW.keep (by decide) (by decide)⟩
  case p14 =>
    intro D q a' w' hk he hl hW
    have e13 := (hl 51).trans (lookS_at rfl (he ⟨13, .data⟩ (by simp) rfl) rfl)
    exact wp_val (.agg (mpC ({ m with k := 1, sh := v % 2, ct := 1, cl := L, la := y + 10 + 2 }))) (by simp only [execOp, Act.eval]; rw [e13]; kernel_rfl) ⟨q, fun _ => rfl, ⟨_, rfl, rfl⟩, hW.keep (by decide) (by decide)⟩
  case p15 =>
    intro D q a' w' hk he hl hW
    have e13 := (hl 51).trans (lookS_at rfl (he ⟨13, .data⟩ (by simp) rfl) rfl)
    exact wp_val (.int .i64 0) (by simp only [execOp, Act.eval]; rw [e13]; kernel_rfl) ⟨q, fun _ => rfl, ⟨_, rfl, rfl⟩, hW.keep (by decide) (by decide)⟩
  case p16 =>
    intro D q a' w' hk he hl hW
    exact wp_salloc _ rfl hW.base (mpC mp0) alloc_map fun q1 w1 hM => ⟨q1, fun j => by simp only [lookS, hk, Bool.false_eq_true, if_false], ⟨_, rfl, rfl⟩, hW.alloc hk (by decide) hM⟩
  case p17 =>
    intro D q a' w' hk he hl hW
    have e16 := (hl 12).trans (lookS_at rfl (he ⟨16, .data⟩ (by simp) rfl) rfl)
    have e14 := (hl 65).trans (lookS_at rfl (he ⟨14, .data⟩ (by simp) rfl) rfl)
    exact wp_sstoreA _ _ _ rfl rfl q e16 0 (hW.on (he ⟨16, .data⟩ (by simp) rfl) hk) (mpC mp0) (mpC ({ m with k := 1, sh := v % 2, ct := 1, cl := L, la := y + 10 + 2 })) rfl e14 (by kernel_rfl) (by kernel_rfl) (by kernel_rfl) fun w1 hM => ⟨q, fun _ => rfl, ⟨undef, rfl, rfl⟩, WBox.store (he ⟨16, .data⟩ (by simp) rfl) hM⟩
  case p18 =>
    intro D q a' w' hk he hl hW
    have e15 := (hl 66).trans (lookS_at rfl (he ⟨15, .data⟩ (by simp) rfl) rfl)
    exact wp_val (.int .i64 0) (by simp only [execOp, Act.eval]; rw [e15]; kernel_rfl) ⟨q, fun _ => rfl, ⟨_, rfl, rfl⟩, hW.keep (by decide) (by decide)⟩
  intro D q' w' hD hW
  clear H
  have H := hW.done (hD 16 (by decide)) (hD 17 (by decide))
  clear hD hW
  simp only [putAll, List.foldl_cons, List.foldl_nil, Act.put, List.setIfInBounds_toArray, List.set_cons_succ, List.set_cons_zero]
  go_wp2_with (first
    | go_skip | (refine wpList_mboxA rfl _ _ rfl H _ rfl ?_; clear H; intro _ w1 _ H) | (refine gate_load _ _ rfl ?_; first | (refine wpList_mloadA rfl _ _ rfl _ rfl 0 H _ rfl (by decide +kernel) (by kernel_rfl) ?_) | (refine wpList_mloadA rfl _ _ rfl _ rfl 1 H _ rfl (by decide +kernel) (by kernel_rfl) ?_) | (refine wpList_mloadA rfl _ _ rfl _ rfl 2 H _ rfl (by decide +kernel) (by kernel_rfl) ?_) | (refine wpList_mload1 rfl _ _ rfl _ _ rfl 0 H _ (.int _ _) rfl rfl (by decide +kernel) ?_) | (refine wpList_mload1 rfl _ _ rfl _ _ rfl 1 H _ (.int _ _) rfl rfl (by decide +kernel) ?_) | (refine wpList_mload1 rfl _ _ rfl _ _ rfl 2 H _ (.int _ _) rfl rfl (by decide +kernel) ?_) | (refine wpList_mload1 rfl _ _ rfl _ _ rfl 0 H _ (.bool _) rfl rfl (by decide +kernel) ?_) | (refine wpList_mload1 rfl _ _ rfl _ _ rfl 1 H _ (.bool _) rfl rfl (by decide +kernel) ?_) | (refine wpList_mload1 rfl _ _ rfl _ _ rfl 2 H _ (.bool _) rfl rfl (by decide +kernel) ?_) | (refine wpList_mload1 rfl _ _ rfl _ _ rfl 0 H _ (.pointer _) rfl rfl (by decide +kernel) ?_) | (refine wpList_mload1 rfl _ _ rfl _ _ rfl 1 H _ (.pointer _) rfl rfl (by decide +kernel) ?_) | (refine wpList_mload1 rfl _ _ rfl _ _ rfl 2 H _ (.pointer _) rfl rfl (by decide +kernel) ?_) | (refine wpList_mload1 rfl _ _ rfl _ _ rfl 0 H _ (.string _) rfl rfl (by decide +kernel) ?_) | (refine wpList_mload1 rfl _ _ rfl _ _ rfl 1 H _ (.string _) rfl rfl (by decide +kernel) ?_) | (refine wpList_mload1 rfl _ _ rfl _ _ rfl 2 H _ (.string _) rfl rfl (by decide +kernel) ?_) | (refine wpList_mload1 rfl _ _ rfl _ _ rfl 0 H _ (.slice _ _ _) rfl rfl (by decide +kernel) ?_) | (refine wpList_mload1 rfl _ _ rfl _ _ rfl 1 H _ (.slice _ _ _) rfl rfl (by decide +kernel) ?_) | (refine wpList_mload1 rfl _ _ rfl _ _ rfl 2 H _ (.slice _ _ _) rfl rfl (by decide +kernel) ?_)) | (refine gate_store _ _ _ rfl ?_; (first | (refine wpList_mstoreA rfl _ _ _ rfl rfl _ rfl 0 H _ _ rfl rfl (by kernel_rfl) (by kernel_rfl) (by kernel_rfl) ?_) | (refine wpList_mstoreA rfl _ _ _ rfl rfl _ rfl 1 H _ _ rfl rfl (by kernel_rfl) (by kernel_rfl) (by kernel_rfl) ?_) | (refine wpList_mstoreA rfl _ _ _ rfl rfl _ rfl 2 H _ _ rfl rfl (by kernel_rfl) (by kernel_rfl) (by kernel_rfl) ?_) | (refine wpList_mstore rfl _ _ _ rfl rfl _ _ rfl 0 H _ _ rfl (.int _ _) rfl (by kernel_rfl) (of_decide_eq_true (by kernel_rfl)) (by kernel_rfl) rfl ?_) | (refine wpList_mstore rfl _ _ _ rfl rfl _ _ rfl 1 H _ _ rfl (.int _ _) rfl (by kernel_rfl) (of_decide_eq_true (by kernel_rfl)) (by kernel_rfl) rfl ?_) | (refine wpList_mstore rfl _ _ _ rfl rfl _ _ rfl 2 H _ _ rfl (.int _ _) rfl (by kernel_rfl) (of_decide_eq_true (by kernel_rfl)) (by kernel_rfl) rfl ?_) | (refine wpList_mstore rfl _ _ _ rfl rfl _ _ rfl 0 H _ _ rfl (.bool _) rfl (by kernel_rfl) (of_decide_eq_true (by kernel_rfl)) (by kernel_rfl) rfl ?_) | (refine wpList_mstore rfl _ _ _ rfl rfl _ _ rfl 1 H _ _ rfl (.bool _) rfl (by kernel_rfl) (of_decide_eq_true (by kernel_rfl)) (by kernel_rfl) rfl ?_) | (refine wpList_mstore rfl _ _ _ rfl rfl _ _ rfl 2 H _ _ rfl (.bool _) rfl (by kernel_rfl) (of_decide_eq_true (by kernel_rfl)) (by kernel_rfl) rfl ?_) | (refine wpList_mstore rfl _ _ _ rfl rfl _ _ rfl 0 H _ _ rfl (.pointer _) rfl (by kernel_rfl) (of_decide_eq_true (by kernel_rfl)) (by kernel_rfl) rfl ?_) | (refine wpList_mstore rfl _ _ _ rfl rfl _ _ rfl 1 H _ _ rfl (.pointer _) rfl (by kernel_rfl) (of_decide_eq_true (by kernel_rfl)) (by kernel_rfl) rfl ?_) | (refine wpList_mstore rfl _ _ _ rfl rfl _ _ rfl 2 H _ _ rfl (.pointer _) rfl (by kernel_rfl) (of_decide_eq_true (by kernel_rfl)) (by kernel_rfl) rfl ?_) | (refine wpList_mstore rfl _ _ _ rfl rfl _ _ rfl 0 H _ _ rfl (.string _) rfl (by kernel_rfl) (of_decide_eq_true (by kernel_rfl)) (by kernel_rfl) rfl ?_) | (refine wpList_mstore rfl _ _ _ rfl rfl _ _ rfl 1 H _ _ rfl (.string _) rfl (by kernel_rfl) (of_decide_eq_true (by kernel_rfl)) (by kernel_rfl) rfl ?_) | (refine wpList_mstore rfl _ _ _ rfl rfl _ _ rfl 2 H _ _ rfl (.string _) rfl (by kernel_rfl) (of_decide_eq_true (by kernel_rfl)) (by kernel_rfl) rfl ?_) | (refine wpList_mstore rfl _ _ _ rfl rfl _ _ rfl 0 H _ _ rfl (.slice _ _ _) rfl (by kernel_rfl) (of_decide_eq_true (by kernel_rfl)) (by kernel_rfl) rfl ?_) | (refine wpList_mstore rfl _ _ _ rfl rfl _ _ rfl 1 H _ _ rfl (.slice _ _ _) rfl (by kernel_rfl) (of_decide_eq_true (by kernel_rfl)) (by kernel_rfl) rfl ?_) | (refine wpList_mstore rfl _ _ _ rfl rfl _ _ rfl 2 H _ _ rfl (.slice _ _ _) rfl (by kernel_rfl) (of_decide_eq_true (by kernel_rfl)) (by kernel_rfl) rfl ?_)); clear H; intro w1 H; simp only [List.set_cons_zero, List.set_cons_succ, mp_all] at H)
    | fail)
  replace H := H.sub (List.Sublist.cons _ (List.Sublist.refl _))
  clear Q0
  rw [rounds_succ]
  go_wp2_with fail
  refine wp_region_settled (by kernel_rfl) (by kernel_rfl) (fun q => [(some 52, .agg (mpC { m with k := 1, sh := v % 2, ct := 1, cl := L, la := y + 10 + 2 })), (some 53, .int .u16 a), (some 54, .int .u16 (bits .or .u16 a 32768)), (some 55, .int .u8 v), (some 56, .int .i64 1), (some 57, .int .u8 (v.fdiv 2)), (some 58, .int .u8 (bits .and .u8 (v.fdiv 2) 1)), (some 59, .int .i64 (y + 10)), (some 60, .int .i64 1), (some 61, .int .i64 2), (some 62, .int .i64 4), (some 63, .int .i64 (IntKind.wrap .i64 (y + 10 + 4))), (some 64, .tuple #[.agg (mpC ({ m with k := 1, sh := v % 4, ct := 2, cl := L, la := y + 10 + 4 })), .int .i64 0]), (some 51, .tuple #[.agg (mpC ({ m with k := 1, sh := v % 4, ct := 2, cl := L, la := y + 10 + 4 })), .int .i64 0]), (some 65, .agg (mpC ({ m with k := 1, sh := v % 4, ct := 2, cl := L, la := y + 10 + 4 }))), (some 66, .int .i64 0), (some 12, .pointer (some ⟨q, 0, none⟩)), (none, undef), (some 13, .int .i64 0)]) (WBox _ _ _ 16 17 (mpC mp0) (mpC ({ m with k := 1, sh := v % 4, ct := 2, cl := L, la := y + 10 + 4 })) _) 112 (by rfl) (fun _ => by rfl) (fun _ => by rfl) (fun _ => by rfl) (WBox.start H) ⟨?p0, ?p1, ?p2, ?p3, ?p4, ?p5, ?p6, ?p7, ?p8, ?p9, ?p10, ?p11, ?p12, ?p13, ?p14, ?p15, ?p16, ?p17, ?p18, trivial⟩ ?_
  case p0 =>
    intro D q a' w' hk he hl hW
    have e := (hl 8).trans (lookS_absent _ 0 (by simp))
    exact wp_sload _ _ rfl _ 0 e 1 hW.base (mpC { m with k := 1, sh := v % 2, ct := 1, cl := L, la := y + 10 + 2 }) (mpC { m with k := 1, sh := v % 2, ct := 1, cl := L, la := y + 10 + 2 }) rfl (by decide +kernel) (by kernel_rfl) (fun j v hj => by rw [Nat.zero_add]; exact hj) ⟨q, fun _ => rfl, ⟨_, rfl, rfl⟩, hW.keep (by decide) (by decide)⟩
  case p1 =>
    intro D q a' w' hk he hl hW
    have f5 : a'.tmps.getD 5 undef = .int .u16 a := (hl 5).trans ((lookS_absent _ 0 (by simp)).trans rfl)
    exact wp_val (.int .u16 a) (by simp only [execOp, Act.eval]; rw [f5]; kernel_rfl) ⟨q, fun _ => rfl, ⟨_, rfl, rfl⟩, hW.keep (by decide) (by decide)⟩
  case p2 =>
    intro D q a' w' hk he hl hW
    have e1 := (hl 53).trans (lookS_at rfl (he ⟨1, .data⟩ (by simp) rfl) rfl)
    exact wp_val (.int .u16 (bits .or .u16 a 32768)) (by simp only [execOp, Act.eval]; rw [e1]; kernel_rfl) ⟨q, fun _ => rfl, ⟨_, rfl, rfl⟩, hW.keep (by decide) (by decide)⟩
  case p3 =>
    intro D q a' w' hk he hl hW
    have f4 : a'.tmps.getD 4 undef = .int .u8 v := (hl 4).trans ((lookS_absent _ 0 (by simp)).trans rfl)
    exact wp_val (.int .u8 v) (by simp only [execOp, Act.eval]; rw [f4]; kernel_rfl) ⟨q, fun _ => rfl, ⟨_, rfl, rfl⟩, hW.keep (by decide) (by decide)⟩
  case p4 =>
    intro D q a' w' hk he hl hW
    have f11 : a'.tmps.getD 11 undef = .int .i64 1 := (hl 11).trans ((lookS_absent _ 0 (by simp)).trans rfl)
    exact wp_val (.int .i64 1) (by simp only [execOp, Act.eval]; rw [f11]; kernel_rfl) ⟨q, fun _ => rfl, ⟨_, rfl, rfl⟩, hW.keep (by decide) (by decide)⟩
  case p5 =>
    intro D q a' w' hk he hl hW
    have e3 := (hl 55).trans (lookS_at rfl (he ⟨3, .data⟩ (by simp) rfl) rfl)
    have e4 := (hl 56).trans (lookS_at rfl (he ⟨4, .data⟩ (by simp) rfl) rfl)
    exact wp_val (.int .u8 (v.fdiv 2)) (by simp only [execOp, Act.eval]; rw [e3, e4]; kernel_rfl) ⟨q, fun _ => rfl, ⟨_, rfl, rfl⟩, hW.keep (by decide) (by decide)⟩
  case p6 =>
    intro D q a' w' hk he hl hW
    have e5 := (hl 57).trans (lookS_at rfl (he ⟨5, .data⟩ (by simp) rfl) rfl)
    exact wp_val (.int .u8 (bits .and .u8 (v.fdiv 2) 1)) (by simp only [execOp, Act.eval]; rw [e5]; kernel_rfl) ⟨q, fun _ => rfl, ⟨_, rfl, rfl⟩, hW.keep (by decide) (by decide)⟩
  case p7 =>
    intro D q a' w' hk he hl hW
    have f7 : a'.tmps.getD 7 undef = .int .i64 (y + 10) := (hl 7).trans ((lookS_absent _ 0 (by simp)).trans rfl)
    exact wp_val (.int .i64 (y + 10)) (by simp only [execOp, Act.eval]; rw [f7]; kernel_rfl) ⟨q, fun _ => rfl, ⟨_, rfl, rfl⟩, hW.keep (by decide) (by decide)⟩
  case p8 =>
    intro D q a' w' hk he hl hW
    have f11 : a'.tmps.getD 11 undef = .int .i64 1 := (hl 11).trans ((lookS_absent _ 0 (by simp)).trans rfl)
    exact wp_val (.int .i64 1) (by simp only [execOp, Act.eval]; rw [f11]; kernel_rfl) ⟨q, fun _ => rfl, ⟨_, rfl, rfl⟩, hW.keep (by decide) (by decide)⟩
  case p9 =>
    intro D q a' w' hk he hl hW
    have e8 := (hl 60).trans (lookS_at rfl (he ⟨8, .data⟩ (by simp) rfl) rfl)
    exact wp_val (.int .i64 2) (by simp only [execOp, Act.eval]; rw [e8]; kernel_rfl) ⟨q, fun _ => rfl, ⟨_, rfl, rfl⟩, hW.keep (by decide) (by decide)⟩
  case p10 =>
    intro D q a' w' hk he hl hW
    have e9 := (hl 61).trans (lookS_at rfl (he ⟨9, .data⟩ (by simp) rfl) rfl)
    exact wp_val (.int .i64 4) (by simp only [execOp, Act.eval]; rw [e9]; kernel_rfl) ⟨q, fun _ => rfl, ⟨_, rfl, rfl⟩, hW.keep (by decide) (by decide)⟩
  case p11 =>
    intro D q a' w' hk he hl hW
    have e7 := (hl 59).trans (lookS_at rfl (he ⟨7, .data⟩ (by simp) rfl) rfl)
    have e10 := (hl 62).trans (lookS_at rfl (he ⟨10, .data⟩ (by simp) rfl) rfl)
    exact wp_val (.int .i64 (IntKind.wrap .i64 (y + 10 + 4))) (by simp only [execOp, Act.eval]; rw [e7, e10]; kernel_rfl) ⟨q, fun _ => rfl, ⟨_, rfl, rfl⟩, hW.keep (by decide) (by decide)⟩
  case p12 =>
    intro D q a' w' hk he hl hW
    have e0 := (hl 52).trans (lookS_at rfl (he ⟨0, .data⟩ (by simp) rfl) rfl)
    have e2 := (hl 54).trans (lookS_at rfl (he ⟨2, .data⟩ (by simp) rfl) rfl)
    have e6 := (hl 58).trans (lookS_at rfl (he ⟨6, .data⟩ (by simp) rfl) rfl)
    have e11 := (hl 63).trans (lookS_at rfl (he ⟨11, .data⟩ (by simp) rfl) rfl)
    exact wp_callf (vals := #[.agg (mpC { m with k := 1, sh := v % 2, ct := 1, cl := L, la := y + 10 + 2 }), .int .u16 (bits .or .u16 a 32768), .int .u8 (bits .and .u8 (v.fdiv 2) 1), .int .i64 (IntKind.wrap .i64 (y + 10 + 4))]) rfl rfl (by simp only [List.map_toArray, List.map_cons, List.map_nil, Act.eval, e0, e2, e6, e11]) (by kernel_rfl) (Q1.out _) fun w1 hB => ⟨q, fun _ => rfl, ⟨_, rfl, rfl⟩, (hW.next hB).keep (by decide) (by decide)⟩
  case p13 =>
    intro D q a' w' hk he hl hW
    have e12 := (hl 64).trans (lookS_at rfl (he ⟨12, .data⟩ (by simp) rfl) rfl)
    exact wp_val (.tuple #[.agg (mpC ({ m with k := 1, sh := v % 4, ct := 2, cl := L, la := y + 10 + 4 })), .int .i64 0]) (by simp only [execOp, Act.eval]; rw [e12]; kernel_rfl) ⟨q, fun _ => rfl, ⟨_, rfl, rfl⟩, hW.keep (by decide) (by decide)⟩
  case p14 =>
    intro D q a' w' hk he hl hW
    have e13 := (hl 51).trans (lookS_at rfl (he ⟨13, .data⟩ (by simp) rfl) rfl)
    exact wp_val (.agg (mpC ({ m with k := 1, sh := v % 4, ct := 2, cl := L, la := y + 10 + 4 }))) (by simp only [execOp, Act.eval]; rw [e13]; kernel_rfl) ⟨q, fun _ => rfl, ⟨_, rfl, rfl⟩, hW.keep (by decide) (by decide)⟩
  case p15 =>
    intro D q a' w' hk he hl hW
    have e13 := (hl 51).trans (lookS_at rfl (he ⟨13, .data⟩ (by simp) rfl) rfl)
    exact wp_val (.int .i64 0) (by simp only [execOp, Act.eval]; rw [e13]; kernel_rfl) ⟨q, fun _ => rfl, ⟨_, rfl, rfl⟩, hW.keep (by decide) (by decide)⟩
  case p16 =>
    intro D q a' w' hk he hl hW
    exact wp_salloc _ rfl hW.base (mpC mp0) alloc_map fun q1 w1 hM => ⟨q1, fun j => by simp only [lookS, hk, Bool.false_eq_true, if_false], ⟨_, rfl, rfl⟩, hW.alloc hk (by decide) hM⟩
  case p17 =>
    intro D q a' w' hk he hl hW
    have e16 := (hl 12).trans (lookS_at rfl (he ⟨16, .data⟩ (by simp) rfl) rfl)
    have e14 := (hl 65).trans (lookS_at rfl (he ⟨14, .data⟩ (by simp) rfl) rfl)
    exact wp_sstoreA _ _ _ rfl rfl q e16 0 (hW.on (he ⟨16, .data⟩ (by simp) rfl) hk) (mpC mp0) (mpC ({ m with k := 1, sh := v % 4, ct := 2, cl := L, la := y + 10 + 4 })) rfl e14 (by kernel_rfl) (by kernel_rfl) (by kernel_rfl) fun w1 hM => ⟨q, fun _ => rfl, ⟨undef, rfl, rfl⟩, WBox.store (he ⟨16, .data⟩ (by simp) rfl) hM⟩
  case p18 =>
    intro D q a' w' hk he hl hW
    have e15 := (hl 66).trans (lookS_at rfl (he ⟨15, .data⟩ (by simp) rfl) rfl)
    exact wp_val (.int .i64 0) (by simp only [execOp, Act.eval]; rw [e15]; kernel_rfl) ⟨q, fun _ => rfl, ⟨_, rfl, rfl⟩, hW.keep (by decide) (by decide)⟩
  intro D q' w' hD hW
  clear H
  have H := hW.done (hD 16 (by decide)) (hD 17 (by decide))
  clear hD hW
  simp only [putAll, List.foldl_cons, List.foldl_nil, Act.put, List.setIfInBounds_toArray, List.set_cons_succ, List.set_cons_zero]
  go_wp2_with (first
    | go_skip | (refine wpList_mboxA rfl _ _ rfl H _ rfl ?_; clear H; intro _ w1 _ H) | (refine gate_load _ _ rfl ?_; first | (refine wpList_mloadA rfl _ _ rfl _ rfl 0 H _ rfl (by decide +kernel) (by kernel_rfl) ?_) | (refine wpList_mloadA rfl _ _ rfl _ rfl 1 H _ rfl (by decide +kernel) (by kernel_rfl) ?_) | (refine wpList_mloadA rfl _ _ rfl _ rfl 2 H _ rfl (by decide +kernel) (by kernel_rfl) ?_) | (refine wpList_mload1 rfl _ _ rfl _ _ rfl 0 H _ (.int _ _) rfl rfl (by decide +kernel) ?_) | (refine wpList_mload1 rfl _ _ rfl _ _ rfl 1 H _ (.int _ _) rfl rfl (by decide +kernel) ?_) | (refine wpList_mload1 rfl _ _ rfl _ _ rfl 2 H _ (.int _ _) rfl rfl (by decide +kernel) ?_) | (refine wpList_mload1 rfl _ _ rfl _ _ rfl 0 H _ (.bool _) rfl rfl (by decide +kernel) ?_) | (refine wpList_mload1 rfl _ _ rfl _ _ rfl 1 H _ (.bool _) rfl rfl (by decide +kernel) ?_) | (refine wpList_mload1 rfl _ _ rfl _ _ rfl 2 H _ (.bool _) rfl rfl (by decide +kernel) ?_) | (refine wpList_mload1 rfl _ _ rfl _ _ rfl 0 H _ (.pointer _) rfl rfl (by decide +kernel) ?_) | (refine wpList_mload1 rfl _ _ rfl _ _ rfl 1 H _ (.pointer _) rfl rfl (by decide +kernel) ?_) | (refine wpList_mload1 rfl _ _ rfl _ _ rfl 2 H _ (.pointer _) rfl rfl (by decide +kernel) ?_) | (refine wpList_mload1 rfl _ _ rfl _ _ rfl 0 H _ (.string _) rfl rfl (by decide +kernel) ?_) | (refine wpList_mload1 rfl _ _ rfl _ _ rfl 1 H _ (.string _) rfl rfl (by decide +kernel) ?_) | (refine wpList_mload1 rfl _ _ rfl _ _ rfl 2 H _ (.string _) rfl rfl (by decide +kernel) ?_) | (refine wpList_mload1 rfl _ _ rfl _ _ rfl 0 H _ (.slice _ _ _) rfl rfl (by decide +kernel) ?_) | (refine wpList_mload1 rfl _ _ rfl _ _ rfl 1 H _ (.slice _ _ _) rfl rfl (by decide +kernel) ?_) | (refine wpList_mload1 rfl _ _ rfl _ _ rfl 2 H _ (.slice _ _ _) rfl rfl (by decide +kernel) ?_)) | (refine gate_store _ _ _ rfl ?_; (first | (refine wpList_mstoreA rfl _ _ _ rfl rfl _ rfl 0 H _ _ rfl rfl (by kernel_rfl) (by kernel_rfl) (by kernel_rfl) ?_) | (refine wpList_mstoreA rfl _ _ _ rfl rfl _ rfl 1 H _ _ rfl rfl (by kernel_rfl) (by kernel_rfl) (by kernel_rfl) ?_) | (refine wpList_mstoreA rfl _ _ _ rfl rfl _ rfl 2 H _ _ rfl rfl (by kernel_rfl) (by kernel_rfl) (by kernel_rfl) ?_) | (refine wpList_mstore rfl _ _ _ rfl rfl _ _ rfl 0 H _ _ rfl (.int _ _) rfl (by kernel_rfl) (of_decide_eq_true (by kernel_rfl)) (by kernel_rfl) rfl ?_) | (refine wpList_mstore rfl _ _ _ rfl rfl _ _ rfl 1 H _ _ rfl (.int _ _) rfl (by kernel_rfl) (of_decide_eq_true (by kernel_rfl)) (by kernel_rfl) rfl ?_) | (refine wpList_mstore rfl _ _ _ rfl rfl _ _ rfl 2 H _ _ rfl (.int _ _) rfl (by kernel_rfl) (of_decide_eq_true (by kernel_rfl)) (by kernel_rfl) rfl ?_) | (refine wpList_mstore rfl _ _ _ rfl rfl _ _ rfl 0 H _ _ rfl (.bool _) rfl (by kernel_rfl) (of_decide_eq_true (by kernel_rfl)) (by kernel_rfl) rfl ?_) | (refine wpList_mstore rfl _ _ _ rfl rfl _ _ rfl 1 H _ _ rfl (.bool _) rfl (by kernel_rfl) (of_decide_eq_true (by kernel_rfl)) (by kernel_rfl) rfl ?_) | (refine wpList_mstore rfl _ _ _ rfl rfl _ _ rfl 2 H _ _ rfl (.bool _) rfl (by kernel_rfl) (of_decide_eq_true (by kernel_rfl)) (by kernel_rfl) rfl ?_) | (refine wpList_mstore rfl _ _ _ rfl rfl _ _ rfl 0 H _ _ rfl (.pointer _) rfl (by kernel_rfl) (of_decide_eq_true (by kernel_rfl)) (by kernel_rfl) rfl ?_) | (refine wpList_mstore rfl _ _ _ rfl rfl _ _ rfl 1 H _ _ rfl (.pointer _) rfl (by kernel_rfl) (of_decide_eq_true (by kernel_rfl)) (by kernel_rfl) rfl ?_) | (refine wpList_mstore rfl _ _ _ rfl rfl _ _ rfl 2 H _ _ rfl (.pointer _) rfl (by kernel_rfl) (of_decide_eq_true (by kernel_rfl)) (by kernel_rfl) rfl ?_) | (refine wpList_mstore rfl _ _ _ rfl rfl _ _ rfl 0 H _ _ rfl (.string _) rfl (by kernel_rfl) (of_decide_eq_true (by kernel_rfl)) (by kernel_rfl) rfl ?_) | (refine wpList_mstore rfl _ _ _ rfl rfl _ _ rfl 1 H _ _ rfl (.string _) rfl (by kernel_rfl) (of_decide_eq_true (by kernel_rfl)) (by kernel_rfl) rfl ?_) | (refine wpList_mstore rfl _ _ _ rfl rfl _ _ rfl 2 H _ _ rfl (.string _) rfl (by kernel_rfl) (of_decide_eq_true (by kernel_rfl)) (by kernel_rfl) rfl ?_) | (refine wpList_mstore rfl _ _ _ rfl rfl _ _ rfl 0 H _ _ rfl (.slice _ _ _) rfl (by kernel_rfl) (of_decide_eq_true (by kernel_rfl)) (by kernel_rfl) rfl ?_) | (refine wpList_mstore rfl _ _ _ rfl rfl _ _ rfl 1 H _ _ rfl (.slice _ _ _) rfl (by kernel_rfl) (of_decide_eq_true (by kernel_rfl)) (by kernel_rfl) rfl ?_) | (refine wpList_mstore rfl _ _ _ rfl rfl _ _ rfl 2 H _ _ rfl (.slice _ _ _) rfl (by kernel_rfl) (of_decide_eq_true (by kernel_rfl)) (by kernel_rfl) rfl ?_)); clear H; intro w1 H; simp only [List.set_cons_zero, List.set_cons_succ, mp_all] at H)
    | fail)
  replace H := H.sub (List.Sublist.cons _ (List.Sublist.refl _))
  clear Q1
  rw [rounds_succ]
  go_wp2_with fail
  refine wp_region_settled (by kernel_rfl) (by kernel_rfl) (fun q => [(some 52, .agg (mpC { m with k := 1, sh := v % 4, ct := 2, cl := L, la := y + 10 + 4 })), (some 53, .int .u16 a), (some 54, .int .u16 (bits .or .u16 a 32768)), (some 55, .int .u8 v), (some 56, .int .i64 2), (some 57, .int .u8 (v.fdiv 4)), (some 58, .int .u8 (bits .and .u8 (v.fdiv 4) 1)), (some 59, .int .i64 (y + 10)), (some 60, .int .i64 2), (some 61, .int .i64 3), (some 62, .int .i64 6), (some 63, .int .i64 (IntKind.wrap .i64 (y + 10 + 6))), (some 64, .tuple #[.agg (mpC ({ m with k := 1, sh := v % 8, ct := 3, cl := L, la := y + 10 + 6 })), .int .i64 0]), (some 51, .tuple #[.agg (mpC ({ m with k := 1, sh := v % 8, ct := 3, cl := L, la := y + 10 + 6 })), .int .i64 0]), (some 65, .agg (mpC ({ m with k := 1, sh := v % 8, ct := 3, cl := L, la := y + 10 + 6 }))), (some 66, .int .i64 0), (some 12, .pointer (some ⟨q, 0, none⟩)), (none, undef), (some 13, .int .i64 0)]) (WBox _ _ _ 16 17 (mpC mp0) (mpC ({ m with k := 1, sh := v % 8, ct := 3, cl := L, la := y + 10 + 6 })) _) 112 (by rfl) (fun _ => by rfl) (fun _ => by rfl) (fun _ => by rfl) (WBox.start H) ⟨?p0, ?p1, ?p2, ?p3, ?p4, ?p5, ?p6, ?p7, ?p8, ?p9, ?p10, ?p11, ?p12, ?p13, ?p14, ?p15, ?p16, ?p17, ?p18, trivial⟩ ?_
  case p0 =>
    intro D q a' w' hk he hl hW
    have e := (hl 8).trans (lookS_absent _ 0 (by simp))
    exact wp_sload _ _ rfl _ 0 e 1 hW.base (mpC { m with k := 1, sh := v % 4, ct := 2, cl := L, la := y + 10 + 4 }) (mpC { m with k := 1, sh := v % 4, ct := 2, cl := L, la := y + 10 + 4 }) rfl (by decide +kernel) (by kernel_rfl) (fun j v hj => by rw [Nat.zero_add]; exact hj) ⟨q, fun _ => rfl, ⟨_, rfl, rfl⟩, hW.keep (by decide) (by decide)⟩
  case p1 =>
    intro D q a' w' hk he hl hW
    have f5 : a'.tmps.getD 5 undef = .int .u16 a := (hl 5).trans ((lookS_absent _ 0 (by simp)).trans rfl)
    exact wp_val (.int .u16 a) (by simp only [execOp, Act.eval]; rw [f5]; kernel_rfl) ⟨q, fun _ => rfl, ⟨_, rfl, rfl⟩, hW.keep (by decide) (by decide)⟩
  case p2 =>
    intro D q a' w' hk he hl hW
    have e1 := (hl 53).trans (lookS_at rfl (he ⟨1, .data⟩ (by simp) rfl) rfl)
    exact wp_val (.int .u16 (bits .or .u16 a 32768)) (by simp only [execOp, Act.eval]; rw [e1]; kernel_rfl) ⟨q, fun _ => rfl, ⟨_, rfl, rfl⟩, hW.keep (by decide) (by decide)⟩
  case p3 =>
    intro D q a' w' hk he hl hW
    have f4 : a'.tmps.getD 4 undef = .int .u8 v := (hl 4).trans ((lookS_absent _ 0 (by simp)).trans rfl)
    exact wp_val (.int .u8 v) (by simp only [execOp, Act.eval]; rw [f4]; kernel_rfl) ⟨q, fun _ => rfl, ⟨_, rfl, rfl⟩, hW.keep (by decide) (by decide)⟩
  case p4 =>
    intro D q a' w' hk he hl hW
    have f11 : a'.tmps.getD 11 undef = .int .i64 2 := (hl 11).trans ((lookS_absent _ 0 (by simp)).trans rfl)
    exact wp_val (.int .i64 2) (by simp only [execOp, Act.eval]; rw [f11]; kernel_rfl) ⟨q, fun _ => rfl, ⟨_, rfl, rfl⟩, hW.keep (by decide) (by decide)⟩
  case p5 =>
    intro D q a' w' hk he hl hW
    have e3 := (hl 55).trans (lookS_at rfl (he ⟨3, .data⟩ (by simp) rfl) rfl)
    have e4 := (hl 56).trans (lookS_at rfl (he ⟨4, .data⟩ (by simp) rfl) rfl)
    exact wp_val (.int .u8 (v.fdiv 4)) (by simp only [execOp, Act.eval]; rw [e3, e4]; kernel_rfl) ⟨q, fun _ => rfl, ⟨_, rfl, rfl⟩, hW.keep (by decide) (by decide)⟩
  case p6 =>
    intro D q a' w' hk he hl hW
    have e5 := (hl 57).trans (lookS_at rfl (he ⟨5, .data⟩ (by simp) rfl) rfl)
    exact wp_val (.int .u8 (bits .and .u8 (v.fdiv 4) 1)) (by simp only [execOp, Act.eval]; rw [e5]; kernel_rfl) ⟨q, fun _ => rfl, ⟨_, rfl, rfl⟩, hW.keep (by decide) (by decide)⟩
  case p7 =>
    intro D q a' w' hk he hl hW
    have f7 : a'.tmps.getD 7 undef = .int .i64 (y + 10) := (hl 7).trans ((lookS_absent _ 0 (by simp)).trans rfl)
    exact wp_val (.int .i64 (y + 10)) (by simp only [execOp, Act.eval]; rw [f7]; kernel_rfl) ⟨q, fun _ => rfl, ⟨_, rfl, rfl⟩, hW.keep (by decide) (by decide)⟩
  case p8 =>
    intro D q a' w' hk he hl hW
    have f11 : a'.tmps.getD 11 undef = .int .i64 2 := (hl 11).trans ((lookS_absent _ 0 (by simp)).trans rfl)
    exact wp_val (.int .i64 2) (by simp only [execOp, Act.eval]; rw [f11]; kernel_rfl) ⟨q, fun _ => rfl, ⟨_, rfl, rfl⟩, hW.keep (by decide) (by decide)⟩
  case p9 =>
    intro D q a' w' hk he hl hW
    have e8 := (hl 60).trans (lookS_at rfl (he ⟨8, .data⟩ (by simp) rfl) rfl)
    exact wp_val (.int .i64 3) (by simp only [execOp, Act.eval]; rw [e8]; kernel_rfl) ⟨q, fun _ => rfl, ⟨_, rfl, rfl⟩, hW.keep (by decide) (by decide)⟩
  case p10 =>
    intro D q a' w' hk he hl hW
    have e9 := (hl 61).trans (lookS_at rfl (he ⟨9, .data⟩ (by simp) rfl) rfl)
    exact wp_val (.int .i64 6) (by simp only [execOp, Act.eval]; rw [e9]; kernel_rfl) ⟨q, fun _ => rfl, ⟨_, rfl, rfl⟩, hW.keep (by decide) (by decide)⟩
  case p11 =>
    intro D q a' w' hk he hl hW
    have e7 := (hl 59).trans (lookS_at rfl (he ⟨7, .data⟩ (by simp) rfl) rfl)
    have e10 := (hl 62).trans (lookS_at rfl (he ⟨10, .data⟩ (by simp) rfl) rfl)
    exact wp_val (.int .i64 (IntKind.wrap .i64 (y + 10 + 6))) (by simp only [execOp, Act.eval]; rw [e7, e10]; kernel_rfl) ⟨q, fun _ => rfl, ⟨_, rfl, rfl⟩, hW.keep (by decide) (by decide)⟩
  case p12 =>
    intro D q a' w' hk he hl hW
    have e0 := (hl 52).trans (lookS_at rfl (he ⟨0, .data⟩ (by simp) rfl) rfl)
    have e2 := (hl 54).trans (lookS_at rfl (he ⟨2, .data⟩ (by simp) rfl) rfl)
    have e6 := (hl 58).trans (lookS_at rfl (he ⟨6, .data⟩ (by simp) rfl) rfl)
    have e11 := (hl 63).trans (lookS_at rfl (he ⟨11, .data⟩ (by simp) rfl) rfl)
    exact wp_callf (vals := #[.agg (mpC { m with k := 1, sh := v % 4, ct := 2, cl := L, la := y + 10 + 4 }), .int .u16 (bits .or .u16 a 32768), .int .u8 (bits .and .u8 (v.fdiv 4) 1), .int .i64 (IntKind.wrap .i64 (y + 10 + 6))]) rfl rfl (by simp only [List.map_toArray, List.map_cons, List.map_nil, Act.eval, e0, e2, e6, e11]) (by kernel_rfl) (Q2.out _) fun w1 hB => ⟨q, fun _ => rfl, ⟨_, rfl, rfl⟩, (hW.next hB).keep (by decide) (by decide)⟩
  case p13 =>
    intro D q a' w' hk he hl hW
    have e12 := (hl 64).trans (lookS_at rfl (he ⟨12, .data⟩ (by simp) rfl) rfl)
    exact wp_val (.tuple #[.agg (mpC ({ m with k := 1, sh := v % 8, ct := 3, cl := L, la := y + 10 + 6 })), .int .i64 0]) (by simp only [execOp, Act.eval]; rw [e12]; kernel_rfl) ⟨q, fun _ => rfl, ⟨_, rfl, rfl⟩, hW.keep (by decide) (by decide)⟩
  case p14 =>
    intro D q a' w' hk he hl hW
    have e13 := (hl 51).trans (lookS_at rfl (he ⟨13, .data⟩ (by simp) rfl) rfl)
    exact wp_val (.agg (mpC ({ m with k := 1, sh := v % 8, ct := 3, cl := L, la := y + 10 + 6 }))) (by simp only [execOp, Act.eval]; rw [e13]; kernel_rfl) ⟨q, fun _ => rfl, ⟨_, rfl, rfl⟩, hW.keep (by decide) (by decide)⟩
  case p15 =>
    intro D q a' w' hk he hl hW
    have e13 := (hl 51).trans (lookS_at rfl (he ⟨13, .data⟩ (by simp) rfl) rfl)
    exact wp_val (.int .i64 0) (by simp only [execOp, Act.eval]; rw [e13]; kernel_rfl) ⟨q, fun _ => rfl, ⟨_, rfl, rfl⟩, hW.keep (by decide) (by decide)⟩
  case p16 =>
    intro D q a' w' hk he hl hW
    exact wp_salloc _ rfl hW.base (mpC mp0) alloc_map fun q1 w1 hM => ⟨q1, fun j => by simp only [lookS, hk, Bool.false_eq_true, if_false], ⟨_, rfl, rfl⟩, hW.alloc hk (by decide) hM⟩
  case p17 =>
    intro D q a' w' hk he hl hW
    have e16 := (hl 12).trans (lookS_at rfl (he ⟨16, .data⟩ (by simp) rfl) rfl)
    have e14 := (hl 65).trans (lookS_at rfl (he ⟨14, .data⟩ (by simp) rfl) rfl)
    exact wp_sstoreA _ _ _ rfl rfl q e16 0 (hW.on (he ⟨16, .data⟩ (by simp) rfl) hk) (mpC mp0) (mpC ({ m with k := 1, sh := v % 8, ct := 3, cl := L, la := y + 10 + 6 })) rfl e14 (by kernel_rfl) (by kernel_rfl) (by kernel_rfl) fun w1 hM => ⟨q, fun _ => rfl, ⟨undef, rfl, rfl⟩, WBox.store (he ⟨16, .data⟩ (by simp) rfl) hM⟩
  case p18 =>
    intro D q a' w' hk he hl hW
    have e15 := (hl 66).trans (lookS_at rfl (he ⟨15, .data⟩ (by simp) rfl) rfl)
    exact wp_val (.int .i64 0) (by simp only [execOp, Act.eval]; rw [e15]; kernel_rfl) ⟨q, fun _ => rfl, ⟨_, rfl, rfl⟩, hW.keep (by decide) (by decide)⟩
  intro D q' w' hD hW
  clear H
  have H := hW.done (hD 16 (by decide)) (hD 17 (by decide))
  clear hD hW
  simp only [putAll, List.foldl_cons, List.foldl_nil, Act.put, List.setIfInBounds_toArray, List.set_cons_succ, List.set_cons_zero]
  go_wp2_with (first
    | go_skip | (refine wpList_mboxA rfl _ _ rfl H _ rfl ?_; clear H; intro _ w1 _ H) | (refine gate_load _ _ rfl ?_; first | (refine wpList_mloadA rfl _ _ rfl _ rfl 0 H _ rfl (by decide +kernel) (by kernel_rfl) ?_) | (refine wpList_mloadA rfl _ _ rfl _ rfl 1 H _ rfl (by decide +kernel) (by kernel_rfl) ?_) | (refine wpList_mloadA rfl _ _ rfl _ rfl 2 H _ rfl (by decide +kernel) (by kernel_rfl) ?_) | (refine wpList_mload1 rfl _ _ rfl _ _ rfl 0 H _ (.int _ _) rfl rfl (by decide +kernel) ?_) | (refine wpList_mload1 rfl _ _ rfl _ _ rfl 1 H _ (.int _ _) rfl rfl (by decide +kernel) ?_) | (refine wpList_mload1 rfl _ _ rfl _ _ rfl 2 H _ (.int _ _) rfl rfl (by decide +kernel) ?_) | (refine wpList_mload1 rfl _ _ rfl _ _ rfl 0 H _ (.bool _) rfl rfl (by decide +kernel) ?_) | (refine wpList_mload1 rfl _ _ rfl _ _ rfl 1 H _ (.bool _) rfl rfl (by decide +kernel) ?_) | (refine wpList_mload1 rfl _ _ rfl _ _ rfl 2 H _ (.bool _) rfl rfl (by decide +kernel) ?_) | (refine wpList_mload1 rfl _ _ rfl _ _ rfl 0 H _ (.pointer _) rfl rfl (by decide +kernel) ?_) | (refine wpList_mload1 rfl _ _ rfl _ _ rfl 1 H _ (.pointer _) rfl rfl (by decide +kernel) ?_) | (refine wpList_mload1 rfl _ _ rfl _ _ rfl 2 H _ (.pointer _) rfl rfl (by decide +kernel) ?_) | (refine wpList_mload1 rfl _ _ rfl _ _ rfl 0 H _ (.string _) rfl rfl (by decide +kernel) ?_) | (refine wpList_mload1 rfl _ _ rfl _ _ rfl 1 H _ (.string _) rfl rfl (by decide +kernel) ?_) | (refine wpList_mload1 rfl _ _ rfl _ _ rfl 2 H _ (.string _) rfl rfl (by decide +kernel) ?_) | (refine wpList_mload1 rfl _ _ rfl _ _ rfl 0 H _ (.slice _ _ _) rfl rfl (by decide +kernel) ?_) | (refine wpList_mload1 rfl _ _ rfl _ _ rfl 1 H _ (.slice _ _ _) rfl rfl (by decide +kernel) ?_) | (refine wpList_mload1 rfl _ _ rfl _ _ rfl 2 H _ (.slice _ _ _) rfl rfl (by decide +kernel) ?_)) | (refine gate_store _ _ _ rfl ?_; (first | (refine wpList_mstoreA rfl _ _ _ rfl rfl _ rfl 0 H _ _ rfl rfl (by kernel_rfl) (by kernel_rfl) (by kernel_rfl) ?_) | (refine wpList_mstoreA rfl _ _ _ rfl rfl _ rfl 1 H _ _ rfl rfl (by kernel_rfl) (by kernel_rfl) (by kernel_rfl) ?_) | (refine wpList_mstoreA rfl _ _ _ rfl rfl _ rfl 2 H _ _ rfl rfl (by kernel_rfl) (by kernel_rfl) (by kernel_rfl) ?_) | (refine wpList_mstore rfl _ _ _ rfl rfl _ _ rfl 0 H _ _ rfl (.int _ _) rfl (by kernel_rfl) (of_decide_eq_true (by kernel_rfl)) (by kernel_rfl) rfl ?_) | (refine wpList_mstore rfl _ _ _ rfl rfl _ _ rfl 1 H _ _ rfl (.int _ _) rfl (by kernel_rfl) (of_decide_eq_true (by kernel_rfl)) (by kernel_rfl) rfl ?_) | (refine wpList_mstore rfl _ _ _ rfl rfl _ _ rfl 2 H _ _ rfl (.int _ _) rfl (by kernel_rfl) (of_decide_eq_true (by kernel_rfl)) (by kernel_rfl) rfl ?_) | (refine wpList_mstore rfl _ _ _ rfl rfl _ _ rfl 0 H _ _ rfl (.bool _) rfl (by kernel_rfl) (of_decide_eq_true (by kernel_rfl)) (by kernel_rfl) rfl ?_) | (refine wpList_mstore rfl _ _ _ rfl rfl _ _ rfl 1 H _ _ rfl (.bool _) rfl (by kernel_rfl) (of_decide_eq_true (by kernel_rfl)) (by kernel_rfl) rfl ?_) | (refine wpList_mstore rfl _ _ _ rfl rfl _ _ rfl 2 H _ _ rfl (.bool _) rfl (by kernel_rfl) (of_decide_eq_true (by kernel_rfl)) (by kernel_rfl) rfl ?_) | (refine wpList_mstore rfl _ _ _ rfl rfl _ _ rfl 0 H _ _ rfl (.pointer _) rfl (by kernel_rfl) (of_decide_eq_true (by kernel_rfl)) (by kernel_rfl) rfl ?_) | (refine wpList_mstore rfl _ _ _ rfl rfl _ _ rfl 1 H _ _ rfl (.pointer _) rfl (by kernel_rfl) (of_decide_eq_true (by kernel_rfl)) (by kernel_rfl) rfl ?_) | (refine wpList_mstore rfl _ _ _ rfl rfl _ _ rfl 2 H _ _ rfl (.pointer _) rfl (by kernel_rfl) (of_decide_eq_true (by kernel_rfl)) (by kernel_rfl) rfl ?_) | (refine wpList_mstore rfl _ _ _ rfl rfl _ _ rfl 0 H _ _ rfl (.string _) rfl (by kernel_rfl) (of_decide_eq_true (by kernel_rfl)) (by kernel_rfl) rfl ?_) | (refine wpList_mstore rfl _ _ _ rfl rfl _ _ rfl 1 H _ _ rfl (.string _) rfl (by kernel_rfl) (of_decide_eq_true (by kernel_rfl)) (by kernel_rfl) rfl ?_) | (refine wpList_mstore rfl _ _ _ rfl rfl _ _ rfl 2 H _ _ rfl (.string _) rfl (by kernel_rfl) (of_decide_eq_true (by kernel_rfl)) (by kernel_rfl) rfl ?_) | (refine wpList_mstore rfl _ _ _ rfl rfl _ _ rfl 0 H _ _ rfl (.slice _ _ _) rfl (by kernel_rfl) (of_decide_eq_true (by kernel_rfl)) (by kernel_rfl) rfl ?_) | (refine wpList_mstore rfl _ _ _ rfl rfl _ _ rfl 1 H _ _ rfl (.slice _ _ _) rfl (by kernel_rfl) (of_decide_eq_true (by kernel_rfl)) (by kernel_rfl) rfl ?_) | (refine wpList_mstore rfl _ _ _ rfl rfl _ _ rfl 2 H _ _ rfl (.slice _ _ _) rfl (by kernel_rfl) (of_decide_eq_true (by kernel_rfl)) (by kernel_rfl) rfl ?_)); clear H; intro w1 H; simp only [List.set_cons_zero, List.set_cons_succ, mp_all] at H)
    | fail)
  replace H := H.sub (List.Sublist.cons _ (List.Sublist.refl _))
  clear Q2
  rw [rounds_succ]
  go_wp2_with fail
  refine wp_region_settled (by kernel_rfl) (by kernel_rfl) (fun q => [(some 52, .agg (mpC { m with k := 1, sh := v % 8, ct := 3, cl := L, la := y + 10 + 6 })), (some 53, .int .u16 a), (some 54, .int .u16 (bits .or .u16 a 32768)), (some 55, .int .u8 v), (some 56, .int .i64 3), (some 57, .int .u8 (v.fdiv 8)), (some 58, .int .u8 (bits .and .u8 (v.fdiv 8) 1)), (some 59, .int .i64 (y + 10)), (some 60, .int .i64 3), (some 61, .int .i64 4), (some 62, .int .i64 8), (some 63, .int .i64 (IntKind.wrap .i64 (y + 10 + 8))), (some 64, .tuple #[.agg (mpC ({ m with k := 1, sh := v % 16, ct := 4, cl := L, la := y + 10 + 8 })), .int .i64 0]), (some 51, .tuple #[.agg (mpC ({ m with k := 1, sh := v % 16, ct := 4, cl := L, la := y + 10 + 8 })), .int .i64 0]), (some 65, .agg (mpC ({ m with k := 1, sh := v % 16, ct := 4, cl := L, la := y + 10 + 8 }))), (some 66, .int .i64 0), (some 12, .pointer (some ⟨q, 0, none⟩)), (none, undef), (some 13, .int .i64 0)]) (WBox _ _ _ 16 17 (mpC mp0) (mpC ({ m with k := 1, sh := v % 16, ct := 4, cl := L, la := y + 10 + 8 })) _) 112 (by rfl) (fun _ => by rfl) (fun _ => by rfl) (fun _ => by rfl) (WBox.start H) ⟨?p0, ?p1, ?p2, ?p3, ?p4, ?p5, ?p6, ?p7, ?p8, ?p9, ?p10, ?p11, ?p12, ?p13, ?p14, ?p15, ?p16, ?p17, ?p18, trivial⟩ ?_
  case p0 =>
    intro D q a' w' hk he hl hW
    have e := (hl 8).trans (lookS_absent _ 0 (by simp))
    exact wp_sload _ _ rfl _ 0 e 1 hW.base (mpC { m with k := 1, sh := v % 8, ct := 3, cl := L, la := y + 10 + 6 }) (mpC { m with k := 1, sh := v % 8, ct := 3, cl := L, la := y + 10 + 6 }) rfl (by decide +kernel) (by kernel_rfl) (fun j v hj => by rw [Nat.zero_add]; exact hj) ⟨q, fun _ => rfl, ⟨_, rfl, rfl⟩, hW.keep (by decide) (by decide)⟩
  case p1 =>
    intro D q a' w' hk he hl hW
    have f5 : a'.tmps.getD 5 undef = .int .u16 a := (hl 5).trans ((lookS_absent _ 0 (by simp)).trans rfl)
    exact wp_val (.int .u16 a) (by simp only [execOp, Act.eval]; rw [f5]; kernel_rfl) ⟨q, fun _ => rfl, ⟨_, rfl, rfl⟩, hW.keep (by decide) (by decide)⟩
  case p2 =>
    intro D q a' w' hk he hl hW
    have e1 := (hl 53).trans (lookS_at rfl (he ⟨1, .data⟩ (by simp) rfl) rfl)
    exact wp_val (.int .u16 (bits .or .u16 a 32768)) (by simp only [execOp, Act.eval]; rw [e1]; kernel_rfl) ⟨q, fun _ => rfl, ⟨_, rfl, rfl⟩, hW.keep (by decide) (by decide)⟩
  case p3 =>
    intro D q a' w' hk he hl hW
    have f4 : a'.tmps.getD 4 undef = .int .u8 v := (hl 4).trans ((lookS_absent _ 0 (by simp)).trans rfl)
    exact wp_val (.int .u8 v) (by simp only [execOp, Act.eval]; rw [f4]; kernel_rfl) ⟨q, fun _ => rfl, ⟨_, rfl, rfl⟩, hW.keep (by decide) (by decide)⟩
  case p4 =>
    intro D q a' w' hk he hl hW
    have f11 : a'.tmps.getD 11 undef = .int .i64 3 := (hl 11).trans ((lookS_absent _ 0 (by simp)).trans rfl)
    exact wp_val (.int .i64 3) (by simp only [execOp, Act.eval]; rw [f11]; kernel_rfl) ⟨q, fun _ => rfl, ⟨_, rfl, rfl⟩, hW.keep (by decide) (by decide)⟩
  case p5 =>
    intro D q a' w' hk he hl hW
    have e3 := (hl 55).trans (lookS_at rfl (he ⟨3, .data⟩ (by simp) rfl) rfl)
    have e4 := (hl 56).trans (lookS_at rfl (he ⟨4, .data⟩ (by simp) rfl) rfl)
    exact wp_val (.int .u8 (v.fdiv 8)) (by simp only [execOp, Act.eval]; rw [e3, e4]; kernel_rfl) ⟨q, fun _ => rfl, ⟨_, rfl, rfl⟩, hW.keep (by decide) (by decide)⟩
  case p6 =>
    intro D q a' w' hk he hl hW
    have e5 := (hl 57).trans (lookS_at rfl (he ⟨5, .data⟩ (by simp) rfl) rfl)
    exact wp_val (.int .u8 (bits .and .u8 (v.fdiv 8) 1)) (by simp only [execOp, Act.eval]; rw [e5]; kernel_rfl) ⟨q, fun _ => rfl, ⟨_, rfl, rfl⟩, hW.keep (by decide) (by decide)⟩
  case p7 =>
    intro D q a' w' hk he hl hW
    have f7 : a'.tmps.getD 7 undef = .int .i64 (y + 10) := (hl 7).trans ((lookS_absent _ 0 (by simp)).trans rfl)
    exact wp_val (.int .i64 (y + 10)) (by simp only [execOp, Act.eval]; rw [f7]; kernel_rfl) ⟨q, fun _ => rfl, ⟨_, rfl, rfl⟩, hW.keep (by decide) (by decide)⟩
  case p8 =>
    intro D q a' w' hk he hl hW
    have f11 : a'.tmps.getD 11 undef = .int .i64 3 := (hl 11).trans ((lookS_absent _ 0 (by simp)).trans rfl)
    exact wp_val (.int .i64 3) (by simp only [execOp, Act.eval]; rw [f11]; kernel_rfl) ⟨q, fun _ => rfl, ⟨_, rfl, rfl⟩, hW.keep (by decide) (by decide)⟩
  case p9 =>
    intro D q a' w' hk he hl hW
    have e8 := (hl 60).trans (lookS_at rfl (he ⟨8, .data⟩ (by simp) rfl) rfl)
    exact wp_val (.int .i64 4) (by simp only [execOp, Act.eval]; rw [e8]; kernel_rfl) ⟨q, fun _ => rfl, ⟨_, rfl, rfl⟩, hW.keep (by decide) (by decide)⟩
  case p10 =>
    intro D q a' w' hk he hl hW
    have e9 := (hl 61).trans (lookS_at rfl (he ⟨9, .data⟩ (by simp) rfl) rfl)
    exact wp_val (.int .i64 8) (by simp only [execOp, Act.eval]; rw [e9]; kernel_rfl) ⟨q, fun _ => rfl, ⟨_, rfl, rfl⟩, hW.keep (by decide) (by decide)⟩
  case p11 =>
    intro D q a' w' hk he hl hW
    have e7 := (hl 59).trans (lookS_at rfl (he ⟨7, .data⟩ (by simp) rfl) rfl)
    have e10 := (hl 62).trans (lookS_at rfl (he ⟨10, .data⟩ (by simp) rfl) rfl)
    exact wp_val (.int .i64 (IntKind.wrap .i64 (y + 10 + 8))) (by simp only [execOp, Act.eval]; rw [e7, e10]; kernel_rfl) ⟨q, fun _ => rfl, ⟨_, rfl, rfl⟩, hW.keep (by decide) (by decide)⟩
  case p12 =>
    intro D q a' w' hk he hl hW
    have e0 := (hl 52).trans (lookS_at rfl (he ⟨0, .data⟩ (by simp) rfl) rfl)
    have e2 := (hl 54).trans (lookS_at rfl (he ⟨2, .data⟩ (by simp) rfl) rfl)
    have e6 := (hl 58).trans (lookS_at rfl (he ⟨6, .data⟩ (by simp) rfl) rfl)
    have e11 := (hl 63).trans (lookS_at rfl (he ⟨11, .data⟩ (by simp) rfl) rfl)
    exact wp_callf (vals := #[.agg (mpC { m with k := 1, sh := v % 8, ct := 3, cl := L, la := y + 10 + 6 }), .int .u16 (bits .or .u16 a 32768), .int .u8 (bits .and .u8 (v.fdiv 8) 1), .int .i64 (IntKind.wrap .i64 (y + 10 + 8))]) rfl rfl (by simp only [List.map_toArray, List.map_cons, List.map_nil, Act.eval, e0, e2, e6, e11]) (by kernel_rfl) (Q3.out _) fun w1 hB => ⟨q, fun _ => rfl, ⟨_, rfl, rfl⟩, (hW.next hB).keep (by decide) (by decide)⟩
  case p13 =>
    intro D q a' w' hk he hl hW
    have e12 := (hl 64).trans (lookS_at rfl (he ⟨12, .data⟩ (by simp) rfl) rfl)
    exact wp_val (.tuple #[.agg (mpC ({ m with k := 1, sh := v % 16, ct := 4, cl := L, la := y + 10 + 8 })), .int .i64 0]) (by simp only [execOp, Act.eval]; rw [e12]; kernel_rfl) ⟨q, fun _ => rfl, ⟨_, rfl, rfl⟩, hW.keep (by decide) (by decide)⟩
  case p14 =>
    intro D q a' w' hk he hl hW
    have e13 := (hl 51).trans (lookS_at rfl (he ⟨13, .data⟩ (by simp) rfl) rfl)
    exact wp_val (.agg (mpC ({ m with k := 1, sh := v % 16, ct := 4, cl := L, la := y + 10 + 8 }))) (by simp only [execOp, Act.eval]; rw [e13]; kernel_rfl) ⟨q, fun _ => rfl, ⟨_, rfl, rfl⟩, hW.keep (by decide) (by decide)⟩
  case p15 =>
    intro D q a' w' hk he hl hW
    have e13 := (hl 51).trans (lookS_at rfl (he ⟨13, .data⟩ (by simp) rfl) rfl)
    exact wp_val (.int .i64 0) (by simp only [execOp, Act.eval]; rw [e13]; kernel_rfl) ⟨q, fun _ => rfl, ⟨_, rfl, rfl⟩, hW.keep (by decide) (by decide)⟩
  case p16 =>
    intro D q a' w' hk he hl hW
    exact wp_salloc _ rfl hW.base (mpC mp0) alloc_map fun q1 w1 hM => ⟨q1, fun j => by simp only [lookS, hk, Bool.false_eq_true, if_false], ⟨_, rfl, rfl⟩, hW.alloc hk (by decide) hM⟩
  case p17 =>
    intro D q a' w' hk he hl hW
    have e16 := (hl 12).trans (lookS_at rfl (he ⟨16, .data⟩ (by simp) rfl) rfl)
    have e14 := (hl 65).trans (lookS_at rfl (he ⟨14, .data⟩ (by simp) rfl) rfl)
    exact wp_sstoreA _ _ _ rfl rfl q e16 0 (hW.on (he ⟨16, .data⟩ (by simp) rfl) hk) (mpC mp0) (mpC ({ m with k := 1, sh := v % 16, ct := 4, cl := L, la := y + 10 + 8 })) rfl e14 (by kernel_rfl) (by kernel_rfl) (by kernel_rfl) fun w1 hM => ⟨q, fun _ => rfl, ⟨undef, rfl, rfl⟩, WBox.store (he ⟨16, .data⟩ (by simp) rfl) hM⟩
  case p18 =>
    intro D q a' w' hk he hl hW
    have e15 := (hl 66).trans (lookS_at rfl (he ⟨15, .data⟩ (by simp) rfl) rfl)
    exact wp_val (.int .i64 0) (by simp only [execOp, Act.eval]; rw [e15]; kernel_rfl) ⟨q, fun _ => rfl, ⟨_, rfl, rfl⟩, hW.keep (by decide) (by decide)⟩
  intro D q' w' hD hW
  clear H
  have H := hW.done (hD 16 (by decide)) (hD 17 (by decide))
  clear hD hW
  simp only [putAll, List.foldl_cons, List.foldl_nil, Act.put, List.setIfInBounds_toArray, List.set_cons_succ, List.set_cons_zero]
  go_wp2_with (first
    | go_skip | (refine wpList_mboxA rfl _ _ rfl H _ rfl ?_; clear H; intro _ w1 _ H) | (refine gate_load _ _ rfl ?_; first | (refine wpList_mloadA rfl _ _ rfl _ rfl 0 H _ rfl (by decide +kernel) (by kernel_rfl) ?_) | (refine wpList_mloadA rfl _ _ rfl _ rfl 1 H _ rfl (by decide +kernel) (by kernel_rfl) ?_) | (refine wpList_mloadA rfl _ _ rfl _ rfl 2 H _ rfl (by decide +kernel) (by kernel_rfl) ?_) | (refine wpList_mload1 rfl _ _ rfl _ _ rfl 0 H _ (.int _ _) rfl rfl (by decide +kernel) ?_) | (refine wpList_mload1 rfl _ _ rfl _ _ rfl 1 H _ (.int _ _) rfl rfl (by decide +kernel) ?_) | (refine wpList_mload1 rfl _ _ rfl _ _ rfl 2 H _ (.int _ _) rfl rfl (by decide +kernel) ?_) | (refine wpList_mload1 rfl _ _ rfl _ _ rfl 0 H _ (.bool _) rfl rfl (by decide +kernel) ?_) | (refine wpList_mload1 rfl _ _ rfl _ _ rfl 1 H _ (.bool _) rfl rfl (by decide +kernel) ?_) | (refine wpList_mload1 rfl _ _ rfl _ _ rfl 2 H _ (.bool _) rfl rfl (by decide +kernel) ?_) | (refine wpList_mload1 rfl _ _ rfl _ _ rfl 0 H _ (.pointer _) rfl rfl (by decide +kernel) ?_) | (refine wpList_mload1 rfl _ _ rfl _ _ rfl 1 H _ (.pointer _) rfl rfl (by decide +kernel) ?_) | (refine wpList_mload1 rfl _ _ rfl _ _ rfl 2 H _ (.pointer _) rfl rfl (by decide +kernel) ?_) | (refine wpList_mload1 rfl _ _ rfl _ _ rfl 0 H _ (.string _) rfl rfl (by decide +kernel) ?_) | (refine wpList_mload1 rfl _ _ rfl _ _ rfl 1 H _ (.string _) rfl rfl (by decide +kernel) ?_) | (refine wpList_mload1 rfl _ _ rfl _ _ rfl 2 H _ (.string _) rfl rfl (by decide +kernel) ?_) | (refine wpList_mload1 rfl _ _ rfl _ _ rfl 0 H _ (.slice _ _ _) rfl rfl (by decide +kernel) ?_) | (refine wpList_mload1 rfl _ _ rfl _ _ rfl 1 H _ (.slice _ _ _) rfl rfl (by decide +kernel) ?_) | (refine wpList_mload1 rfl _ _ rfl _ _ rfl 2 H _ (.slice _ _ _) rfl rfl (by decide +kernel) ?_)) | (refine gate_store _ _ _ rfl ?_; (first | (refine wpList_mstoreA rfl _ _ _ rfl rfl _ rfl 0 H _ _ rfl rfl (by kernel_rfl) (by kernel_rfl) (by kernel_rfl) ?_) | (refine wpList_mstoreA rfl _ _ _ rfl rfl _ rfl 1 H _ _ rfl rfl (by kernel_rfl) (by kernel_rfl) (by kernel_rfl) ?_) | (refine wpList_mstoreA rfl _ _ _ rfl rfl _ rfl 2 H _ _ rfl rfl (by kernel_rfl) (by kernel_rfl) (by kernel_rfl) ?_) | (refine wpList_mstore rfl _ _ _ rfl rfl _ _ rfl 0 H _ _ rfl (.int _ _) rfl (by kernel_rfl) (of_decide_eq_true (by kernel_rfl)) (by kernel_rfl) rfl ?_) | (refine wpList_mstore rfl _ _ _ rfl rfl _ _ rfl 1 H _ _ rfl (.int _ _) rfl (by kernel_rfl) (of_decide_eq_true (by kernel_rfl)) (by kernel_rfl) rfl ?_) | (refine wpList_mstore rfl _ _ _ rfl rfl _ _ rfl 2 H _ _ rfl (.int _ _) rfl (by kernel_rfl) (of_decide_eq_true (by kernel_rfl)) (by kernel_rfl) rfl ?_) | (refine wpList_mstore rfl _ _ _ rfl rfl _ _ rfl 0 H _ _ rfl (.bool _) rfl (by kernel_rfl) (of_decide_eq_true (by kernel_rfl)) (by kernel_rfl) rfl ?_) | (refine wpList_mstore rfl _ _ _ rfl rfl _ _ rfl 1 H _ _ rfl (.bool _) rfl (by kernel_rfl) (of_decide_eq_true (by kernel_rfl)) (by kernel_rfl) rfl ?_) | (refine wpList_mstore rfl _ _ _ rfl rfl _ _ rfl 2 H _ _ rfl (.bool _) rfl (by kernel_rfl) (of_decide_eq_true (by kernel_rfl)) (by kernel_rfl) rfl ?_) | (refine wpList_mstore rfl _ _ _ rfl rfl _ _ rfl 0 H _ _ rfl (.pointer _) rfl (by kernel_rfl) (of_decide_eq_true (by kernel_rfl)) (by kernel_rfl) rfl ?_) | (refine wpList_mstore rfl _ _ _ rfl rfl _ _ rfl 1 H _ _ rfl (.pointer _) rfl (by kernel_rfl) (of_decide_eq_true (by kernel_rfl)) (by kernel_rfl) rfl ?_) | (refine wpList_mstore rfl _ _ _ rfl rfl _ _ rfl 2 H _ _ rfl (.pointer _) rfl (by kernel_rfl) (of_decide_eq_true (by kernel_rfl)) (by kernel_rfl) rfl ?_) | (refine wpList_mstore rfl _ _ _ rfl rfl _ _ rfl 0 H _ _ rfl (.string _) rfl (by kernel_rfl) (of_decide_eq_true (by kernel_rfl)) (by kernel_rfl) rfl ?_) | (refine wpList_mstore rfl _ _ _ rfl rfl _ _ rfl 1 H _ _ rfl (.string _) rfl (by kernel_rfl) (of_decide_eq_true (by kernel_rfl)) (by kernel_rfl) rfl ?_) | (refine wpList_mstore rfl _ _ _ rfl rfl _ _ rfl 2 H _ _ rfl (.string _) rfl (by kernel_rfl) (of_decide_eq_true (by kernel_rfl)) (by kernel_rfl) rfl ?_) | (refine wpList_mstore rfl _ _ _ rfl rfl _ _ rfl 0 H _ _ rfl (.slice _ _ _) rfl (by kernel_rfl) (of_decide_eq_true (by kernel_rfl)) (by kernel_rfl) rfl ?_) | (refine wpList_mstore rfl _ _ _ rfl rfl _ _ rfl 1 H _ _ rfl (.slice _ _ _) rfl (by kernel_rfl) (of_decide_eq_true (by kernel_rfl)) (by kernel_rfl) rfl ?_) | (refine wpList_mstore rfl _ _ _ rfl rfl _ _ rfl 2 H _ _ rfl (.slice _ _ _) rfl (by kernel_rfl) (of_decide_eq_true (by kernel_rfl)) (by kernel_rfl) rfl ?_)); clear H; intro w1 H; simp only [List.set_cons_zero, List.set_cons_succ, mp_all] at H)
    | fail)
  replace H := H.sub (List.Sublist.cons _ (List.Sublist.refl _))
  clear Q3
  rw [rounds_succ]
  go_wp2_with fail
  refine wp_region_settled (by kernel_rfl) (by kernel_rfl) (fun q => [(some 52, .agg (mpC { m with k := 1, sh := v % 16, ct := 4, cl := L, la := y + 10 + 8 })), (some 53, .int .u16 a), (some 54, .int .u16 (bits .or .u16 a 32768)), (some 55, .int .u8 v), (some 56, .int .i64 4), (some 57, .int .u8 (v.fdiv 16)), (some 58, .int .u8 (bits .and .u8 (v.fdiv 16) 1)), (some 59, .int .i64 (y + 10)), (some 60, .int .i64 4), (some 61, .int .i64 5), (some 62, .int .i64 10), (some 63, .int .i64 (IntKind.wrap .i64 (y + 10 + 10))), (some 64, .tuple #[.agg (mpC (fillM { m with k := 1, sh := s, ct := 5, cl := L, la := y + 10 + 10 } (p))), .int .i64 0]), (some 51, .tuple #[.agg (mpC (fillM { m with k := 1, sh := s, ct := 5, cl := L, la := y + 10 + 10 } (p))), .int .i64 0]), (some 65, .agg (mpC (fillM { m with k := 1, sh := s, ct := 5, cl := L, la := y + 10 + 10 } (p)))), (some 66, .int .i64 0), (some 12, .pointer (some ⟨q, 0, none⟩)), (none, undef), (some 13, .int .i64 0)]) (WBox _ _ _ 16 17 (mpC mp0) (mpC (fillM { m with k := 1, sh := s, ct := 5, cl := L, la := y + 10 + 10 } (p))) _) 112 (by rfl) (fun _ => by rfl) (fun _ => by rfl) (fun _ => by rfl) (WBox.start H) ⟨?p0, ?p1, ?p2, ?p3, ?p4, ?p5, ?p6, ?p7, ?p8, ?p9, ?p10, ?p11, ?p12, ?p13, ?p14, ?p15, ?p16, ?p17, ?p18, trivial⟩ ?_
  case p0 =>
    intro D q a' w' hk he hl hW
    have e := (hl 8).trans (lookS_absent _ 0 (by simp))
    exact wp_sload _ _ rfl _ 0 e 1 hW.base (mpC { m with k := 1, sh := v % 16, ct := 4, cl := L, la := y + 10 + 8 }) (mpC { m with k := 1, sh := v % 16, ct := 4, cl := L, la := y + 10 + 8 }) rfl (by decide +kernel) (by kernel_rfl) (fun j v hj => by rw [Nat.zero_add]; exact hj) ⟨q, fun _ => rfl, ⟨_, rfl, rfl⟩, hW.keep (by decide) (by decide)⟩
  case p1 =>
    intro D q a' w' hk he hl hW
    have f5 : a'.tmps.getD 5 undef = .int .u16 a := (hl 5).trans ((lookS_absent _ 0 (by simp)).trans rfl)
    exact wp_val (.int .u16 a) (by simp only [execOp, Act.eval]; rw [f5]; kernel_rfl) ⟨q, fun _ => rfl, ⟨_, rfl, rfl⟩, hW.keep (by decide) (by decide)⟩
  case p2 =>
    intro D q a' w' hk he hl hW
    have e1 := (hl 53).trans (lookS_at rfl (he ⟨1, .data⟩ (by simp) rfl) rfl)
    exact wp_val (.int .u16 (bits .or .u16 a 32768)) (by simp only [execOp, Act.eval]; rw [e1]; kernel_rfl) ⟨q, fun _ => rfl, ⟨_, rfl, rfl⟩, hW.keep (by decide) (by decide)⟩
  case p3 =>
    intro D q a' w' hk he hl hW
    have f4 : a'.tmps.getD 4 undef = .int .u8 v := (hl 4).trans ((lookS_absent _ 0 (by simp)).trans rfl)
    exact wp_val (.int .u8 v) (by simp only [execOp, Act.eval]; rw [f4]; kernel_rfl) ⟨q, fun _ => rfl, ⟨_, rfl, rfl⟩, hW.keep (by decide) (by decide)⟩
  case p4 =>
    intro D q a' w' hk he hl hW
    have f11 : a'.tmps.getD 11 undef = .int .i64 4 := (hl 11).trans ((lookS_absent _ 0 (by simp)).trans rfl)
    exact wp_val (.int .i64 4) (by simp only [execOp, Act.eval]; rw [f11]; kernel_rfl) ⟨q, fun _ => rfl, ⟨_, rfl, rfl⟩, hW.keep (by decide) (by decide)⟩
  case p5 =>
    intro D q a' w' hk he hl hW
    have e3 := (hl 55).trans (lookS_at rfl (he ⟨3, .data⟩ (by simp) rfl) rfl)
    have e4 := (hl 56).trans (lookS_at rfl (he ⟨4, .data⟩ (by simp) rfl) rfl)
    exact wp_val (.int .u8 (v.fdiv 16)) (by simp only [execOp, Act.eval]; rw [e3, e4]; kernel_rfl) ⟨q, fun _ => rfl, ⟨_, rfl, rfl⟩, hW.keep (by decide) (by decide)⟩
  case p6 =>
    intro D q a' w' hk he hl hW
    have e5 := (hl 57).trans (lookS_at rfl (he ⟨5, .data⟩ (by simp) rfl) rfl)
    exact wp_val (.int .u8 (bits .and .u8 (v.fdiv 16) 1)) (by simp only [execOp, Act.eval]; rw [e5]; kernel_rfl) ⟨q, fun _ => rfl, ⟨_, rfl, rfl⟩, hW.keep (by decide) (by decide)⟩
  case p7 =>
    intro D q a' w' hk he hl hW
    have f7 : a'.tmps.getD 7 undef = .int .i64 (y + 10) := (hl 7).trans ((lookS_absent _ 0 (by simp)).trans rfl)
    exact wp_val (.int .i64 (y + 10)) (by simp only [execOp, Act.eval]; rw [f7]; kernel_rfl) ⟨q, fun _ => rfl, ⟨_, rfl, rfl⟩, hW.keep (by decide) (by decide)⟩
  case p8 =>
    intro D q a' w' hk he hl hW
    have f11 : a'.tmps.getD 11 undef = .int .i64 4 := (hl 11).trans ((lookS_absent _ 0 (by simp)).trans rfl)
    exact wp_val (.int .i64 4) (by simp only [execOp, Act.eval]; rw [f11]; kernel_rfl) ⟨q, fun _ => rfl, ⟨_, rfl, rfl⟩, hW.keep (by decide) (by decide)⟩
  case p9 =>
    intro D q a' w' hk he hl hW
    have e8 := (hl 60).trans (lookS_at rfl (he ⟨8, .data⟩ (by simp) rfl) rfl)
    exact wp_val (.int .i64 5) (by simp only [execOp, Act.eval]; rw [e8]; kernel_rfl) ⟨q, fun _ => rfl, ⟨_, rfl, rfl⟩, hW.keep (by decide) (by decide)⟩
  case p10 =>
    intro D q a' w' hk he hl hW
    have e9 := (hl 61).trans (lookS_at rfl (he ⟨9, .data⟩ (by simp) rfl) rfl)
    exact wp_val (.int .i64 10) (by simp only [execOp, Act.eval]; rw [e9]; kernel_rfl) ⟨q, fun _ => rfl, ⟨_, rfl, rfl⟩, hW.keep (by decide) (by decide)⟩
  case p11 =>
    intro D q a' w' hk he hl hW
    have e7 := (hl 59).trans (lookS_at rfl (he ⟨7, .data⟩ (by simp) rfl) rfl)
    have e10 := (hl 62).trans (lookS_at rfl (he ⟨10, .data⟩ (by simp) rfl) rfl)
    exact wp_val (.int .i64 (IntKind.wrap .i64 (y + 10 + 10))) (by simp only [execOp, Act.eval]; rw [e7, e10]; kernel_rfl) ⟨q, fun _ => rfl, ⟨_, rfl, rfl⟩, hW.keep (by decide) (by decide)⟩
  case p12 =>
    intro D q a' w' hk he hl hW
    have e0 := (hl 52).trans (lookS_at rfl (he ⟨0, .data⟩ (by simp) rfl) rfl)
    have e2 := (hl 54).trans (lookS_at rfl (he ⟨2, .data⟩ (by simp) rfl) rfl)
    have e6 := (hl 58).trans (lookS_at rfl (he ⟨6, .data⟩ (by simp) rfl) rfl)
    have e11 := (hl 63).trans (lookS_at rfl (he ⟨11, .data⟩ (by simp) rfl) rfl)
    exact wp_callf (vals := #[.agg (mpC { m with k := 1, sh := v % 16, ct := 4, cl := L, la := y + 10 + 8 }), .int .u16 (bits .or .u16 a 32768), .int .u8 (bits .and .u8 (v.fdiv 16) 1), .int .i64 (IntKind.wrap .i64 (y + 10 + 10))]) rfl rfl (by simp only [List.map_toArray, List.map_cons, List.map_nil, Act.eval, e0, e2, e6, e11]) (by kernel_rfl) (Q4.out _) fun w1 hB => ⟨q, fun _ => rfl, ⟨_, rfl, rfl⟩, (hW.next hB).keep (by decide) (by decide)⟩
  case p13 =>
    intro D q a' w' hk he hl hW
    have e12 := (hl 64).trans (lookS_at rfl (he ⟨12, .data⟩ (by simp) rfl) rfl)
    exact wp_val (.tuple #[.agg (mpC (fillM { m with k := 1, sh := s, ct := 5, cl := L, la := y + 10 + 10 } (p))), .int .i64 0]) (by simp only [execOp, Act.eval]; rw [e12]; kernel_rfl) ⟨q, fun _ => rfl, ⟨_, rfl, rfl⟩, hW.keep (by decide) (by decide)⟩
  case p14 =>
    intro D q a' w' hk he hl hW
    have e13 := (hl 51).trans (lookS_at rfl (he ⟨13, .data⟩ (by simp) rfl) rfl)
    exact wp_val (.agg (mpC (fillM { m with k := 1, sh := s, ct := 5, cl := L, la := y + 10 + 10 } (p)))) (by simp only [execOp, Act.eval]; rw [e13]; kernel_rfl) ⟨q, fun _ => rfl, ⟨_, rfl, rfl⟩, hW.keep (by decide) (by decide)⟩
  case p15 =>
    intro D q a' w' hk he hl hW
    have e13 := (hl 51).trans (lookS_at rfl (he ⟨13, .data⟩ (by simp) rfl) rfl)
    exact wp_val (.int .i64 0) (by simp only [execOp, Act.eval]; rw [e13]; kernel_rfl) ⟨q, fun _ => rfl, ⟨_, rfl, rfl⟩, hW.keep (by decide) (by decide)⟩
  case p16 =>
    intro D q a' w' hk he hl hW
    exact wp_salloc _ rfl hW.base (mpC mp0) alloc_map fun q1 w1 hM => ⟨q1, fun j => by simp only [lookS, hk, Bool.false_eq_true, if_false], ⟨_, rfl, rfl⟩, hW.alloc hk (by decide) hM⟩
  case p17 =>
    intro D q a' w' hk he hl hW
    have e16 := (hl 12).trans (lookS_at rfl (he ⟨16, .data⟩ (by simp) rfl) rfl)
    have e14 := (hl 65).trans (lookS_at rfl (he ⟨14, .data⟩ (by simp) rfl) rfl)
    exact wp_sstoreA _ _ _ rfl rfl q e16 0 (hW.on (he ⟨16, .data⟩ (by simp) rfl) hk) (mpC mp0) (mpC (fillM { m with k := 1, sh := s, ct := 5, cl := L, la := y + 10 + 10 } (p))) rfl e14 (by kernel_rfl) (by kernel_rfl) (by kernel_rfl) fun w1 hM => ⟨q, fun _ => rfl, ⟨undef, rfl, rfl⟩, WBox.store (he ⟨16, .data⟩ (by simp) rfl) hM⟩
  case p18 =>
    intro D q a' w' hk he hl hW
    have e15 := (hl 66).trans (lookS_at rfl (he ⟨15, .data⟩ (by simp) rfl) rfl)
    exact wp_val (.int .i64 0) (by simp only [execOp, Act.eval]; rw [e15]; kernel_rfl) ⟨q, fun _ => rfl, ⟨_, rfl, rfl⟩, hW.keep (by decide) (by decide)⟩
  intro D q' w' hD hW
  clear H
  have H := hW.done (hD 16 (by decide)) (hD 17 (by decide))
  clear hD hW
  simp only [putAll, List.foldl_cons, List.foldl_nil, Act.put, List.setIfInBounds_toArray, List.set_cons_succ, List.set_cons_zero]
  go_wp2_with (first
    | go_skip | (refine wpList_mboxA rfl _ _ rfl H _ rfl ?_; clear H; intro _ w1 _ H) | (refine gate_load _ _ rfl ?_; first | (refine wpList_mloadA rfl _ _ rfl _ rfl 0 H _ rfl (by decide +kernel) (by kernel_rfl) ?_) | (refine wpList_mloadA rfl _ _ rfl _ rfl 1 H _ rfl (by decide +kernel) (by kernel_rfl) ?_) | (refine wpList_mloadA rfl _ _ rfl _ rfl 2 H _ rfl (by decide +kernel) (by kernel_rfl) ?_) | (refine wpList_mload1 rfl _ _ rfl _ _ rfl 0 H _ (.int _ _) rfl rfl (by decide +kernel) ?_) | (refine wpList_mload1 rfl _ _ rfl _ _ rfl 1 H _ (.int _ _) rfl rfl (by decide +kernel) ?_) | (refine wpList_mload1 rfl _ _ rfl _ _ rfl 2 H _ (.int _ _) rfl rfl (by decide +kernel) ?_) | (refine wpList_mload1 rfl _ _ rfl _ _ rfl 0 H _ (.bool _) rfl rfl (by decide +kernel) ?_) | (refine wpList_mload1 rfl _ _ rfl _ _ rfl 1 H _ (.bool _) rfl rfl (by decide +kernel) ?_) | (refine wpList_mload1 rfl _ _ rfl _ _ rfl 2 H _ (.bool _) rfl rfl (by decide +kernel) ?_) | (refine wpList_mload1 rfl _ _ rfl _ _ rfl 0 H _ (.pointer _) rfl rfl (by decide +kernel) ?_) | (refine wpList_mload1 rfl _ _ rfl _ _ rfl 1 H _ (.pointer _) rfl rfl (by decide +kernel) ?_) | (refine wpList_mload1 rfl _ _ rfl _ _ rfl 2 H _ (.pointer _) rfl rfl (by decide +kernel) ?_) | (refine wpList_mload1 rfl _ _ rfl _ _ rfl 0 H _ (.string _) rfl rfl (by decide +kernel) ?_) | (refine wpList_mload1 rfl _ _ rfl _ _ rfl 1 H _ (.string _) rfl rfl (by decide +kernel) ?_) | (refine wpList_mload1 rfl _ _ rfl _ _ rfl 2 H _ (.string _) rfl rfl (by decide +kernel) ?_) | (refine wpList_mload1 rfl _ _ rfl _ _ rfl 0 H _ (.slice _ _ _) rfl rfl (by decide +kernel) ?_) | (refine wpList_mload1 rfl _ _ rfl _ _ rfl 1 H _ (.slice _ _ _) rfl rfl (by decide +kernel) ?_) | (refine wpList_mload1 rfl _ _ rfl _ _ rfl 2 H _ (.slice _ _ _) rfl rfl (by decide +kernel) ?_)) | (refine gate_store _ _ _ rfl ?_; (first | (refine wpList_mstoreA rfl _ _ _ rfl rfl _ rfl 0 H _ _ rfl rfl (by kernel_rfl) (by kernel_rfl) (by kernel_rfl) ?_) | (refine wpList_mstoreA rfl _ _ _ rfl rfl _ rfl 1 H _ _ rfl rfl (by kernel_rfl) (by kernel_rfl) (by kernel_rfl) ?_) | (refine wpList_mstoreA rfl _ _ _ rfl rfl _ rfl 2 H _ _ rfl rfl (by kernel_rfl) (by kernel_rfl) (by kernel_rfl) ?_) | (refine wpList_mstore rfl _ _ _ rfl rfl _ _ rfl 0 H _ _ rfl (.int _ _) rfl (by kernel_rfl) (of_decide_eq_true (by kernel_rfl)) (by kernel_rfl) rfl ?_) | (refine wpList_mstore rfl _ _ _ rfl rfl _ _ rfl 1 H _ _ rfl (.int _ _) rfl (by kernel_rfl) (of_decide_eq_true (by kernel_rfl)) (by kernel_rfl) rfl ?_) | (refine wpList_mstore rfl _ _ _ rfl rfl _ _ rfl 2 H _ _ rfl (.int _ _) rfl (by kernel_rfl) (of_decide_eq_true (by kernel_rfl)) (by kernel_rfl) rfl ?_) | (refine wpList_mstore rfl _ _ _ rfl rfl _ _ rfl 0 H _ _ rfl (.bool _) rfl (by kernel_rfl) (of_decide_eq_true (by kernel_rfl)) (by kernel_rfl) rfl ?_) | (refine wpList_mstore rfl _ _ _ rfl rfl _ _ rfl 1 H _ _ rfl (.bool _) rfl (by kernel_rfl) (of_decide_eq_true (by kernel_rfl)) (by kernel_rfl) rfl ?_) | (refine wpList_mstore rfl _ _ _ rfl rfl _ _ rfl 2 H _ _ rfl (.bool _) rfl (by kernel_rfl) (of_decide_eq_true (by kernel_rfl)) (by kernel_rfl) rfl ?_) | (refine wpList_mstore rfl _ _ _ rfl rfl _ _ rfl 0 H _ _ rfl (.pointer _) rfl (by kernel_rfl) (of_decide_eq_true (by kernel_rfl)) (by kernel_rfl) rfl ?_) | (refine wpList_mstore rfl _ _ _ rfl rfl _ _ rfl 1 H _ _ rfl (.pointer _) rfl (by kernel_rfl) (of_decide_eq_true (by kernel_rfl)) (by kernel_rfl) rfl ?_) | (refine wpList_mstore rfl _ _ _ rfl rfl _ _ rfl 2 H _ _ rfl (.pointer _) rfl (by kernel_rfl) (of_decide_eq_true (by kernel_rfl)) (by kernel_rfl) rfl ?_) | (refine wpList_mstore rfl _ _ _ rfl rfl _ _ rfl 0 H _ _ rfl (.string _) rfl (by kernel_rfl) (of_decide_eq_true (by kernel_rfl)) (by kernel_rfl) rfl ?_) | (refine wpList_mstore rfl _ _ _ rfl rfl _ _ rfl 1 H _ _ rfl (.string _) rfl (by kernel_rfl) (of_decide_eq_true (by kernel_rfl)) (by kernel_rfl) rfl ?_) | (refine wpList_mstore rfl _ _ _ rfl rfl _ _ rfl 2 H _ _ rfl (.string _) rfl (by kernel_rfl) (of_decide_eq_true (by kernel_rfl)) (by kernel_rfl) rfl ?_) | (refine wpList_mstore rfl _ _ _ rfl rfl _ _ rfl 0 H _ _ rfl (.slice _ _ _) rfl (by kernel_rfl) (of_decide_eq_true (by kernel_rfl)) (by kernel_rfl) rfl ?_) | (refine wpList_mstore rfl _ _ _ rfl rfl _ _ rfl 1 H _ _ rfl (.slice _ _ _) rfl (by kernel_rfl) (of_decide_eq_true (by kernel_rfl)) (by kernel_rfl) rfl ?_) | (refine wpList_mstore rfl _ _ _ rfl rfl _ _ rfl 2 H _ _ rfl (.slice _ _ _) rfl (by kernel_rfl) (of_decide_eq_true (by kernel_rfl)) (by kernel_rfl) rfl ?_)); clear H; intro w1 H; simp only [List.set_cons_zero, List.set_cons_succ, mp_all] at H)
    | fail)
  replace H := H.sub (List.Sublist.cons _ (List.Sublist.refl _))
  clear Q4
  rw [rounds_succ]
  rcases HP.out with rfl | rfl | rfl | rfl
  · have E : fillM { m with k := 1, sh := s, ct := 5, cl := L, la := y + 10 + 10 } 0 = { m with k := 1, sh := 0, ct := 0, cl := s, la := y + 10 + 10 } := rfl
    rw [E] at H
    clear E
    have ee := EE.out { m with k := 1, sh := 0, ct := 0, cl := s, la := y + 10 + 10 }
    go_wp2_with (first
      | go_skip | (refine wpList_mboxA rfl _ _ rfl H _ rfl ?_; clear H; intro _ w1 _ H) | (refine gate_load _ _ rfl ?_; first | (refine wpList_mloadA rfl _ _ rfl _ rfl 0 H _ rfl (by decide +kernel) (by kernel_rfl) ?_) | (refine wpList_mloadA rfl _ _ rfl _ rfl 1 H _ rfl (by decide +kernel) (by kernel_rfl) ?_) | (refine wpList_mloadA rfl _ _ rfl _ rfl 2 H _ rfl (by decide +kernel) (by kernel_rfl) ?_) | (refine wpList_mload1 rfl _ _ rfl _ _ rfl 0 H _ (.int _ _) rfl rfl (by decide +kernel) ?_) | (refine wpList_mload1 rfl _ _ rfl _ _ rfl 1 H _ (.int _ _) rfl rfl (by decide +kernel) ?_) | (refine wpList_mload1 rfl _ _ rfl _ _ rfl 2 H _ (.int _ _) rfl rfl (by decide +kernel) ?_) | (refine wpList_mload1 rfl _ _ rfl _ _ rfl 0 H _ (.bool _) rfl rfl (by decide +kernel) ?_) | (refine wpList_mload1 rfl _ _ rfl _ _ rfl 1 H _ (.bool _) rfl rfl (by decide +kernel) ?_) | (refine wpList_mload1 rfl _ _ rfl _ _ rfl 2 H _ (.bool _) rfl rfl (by decide +kernel) ?_) | (refine wpList_mload1 rfl _ _ rfl _ _ rfl 0 H _ (.pointer _) rfl rfl (by decide +kernel) ?_) | (refine wpList_mload1 rfl _ _ rfl _ _ rfl 1 H _ (.pointer _) rfl rfl (by decide +kernel) ?_) | (refine wpList_mload1 rfl _ _ rfl _ _ rfl 2 H _ (.pointer _) rfl rfl (by decide +kernel) ?_) | (refine wpList_mload1 rfl _ _ rfl _ _ rfl 0 H _ (.string _) rfl rfl (by decide +kernel) ?_) | (refine wpList_mload1 rfl _ _ rfl _ _ rfl 1 H _ (.string _) rfl rfl (by decide +kernel) ?_) | (refine wpList_mload1 rfl _ _ rfl _ _ rfl 2 H _ (.string _) rfl rfl (by decide +kernel) ?_) | (refine wpList_mload1 rfl _ _ rfl _ _ rfl 0 H _ (.slice _ _ _) rfl rfl (by decide +kernel) ?_) | (refine wpList_mload1 rfl _ _ rfl _ _ rfl 1 H _ (.slice _ _ _) rfl rfl (by decide +kernel) ?_) | (refine wpList_mload1 rfl _ _ rfl _ _ rfl 2 H _ (.slice _ _ _) rfl rfl (by decide +kernel) ?_)) | (refine gate_store _ _ _ rfl ?_; (first | (refine wpList_mstoreA rfl _ _ _ rfl rfl _ rfl 0 H _ _ rfl rfl (by kernel_rfl) (by kernel_rfl) (by kernel_rfl) ?_) | (refine wpList_mstoreA rfl _ _ _ rfl rfl _ rfl 1 H _ _ rfl rfl (by kernel_rfl) (by kernel_rfl) (by kernel_rfl) ?_) | (refine wpList_mstoreA rfl _ _ _ rfl rfl _ rfl 2 H _ _ rfl rfl (by kernel_rfl) (by kernel_rfl) (by kernel_rfl) ?_) | (refine wpList_mstore rfl _ _ _ rfl rfl _ _ rfl 0 H _ _ rfl (.int _ _) rfl (by kernel_rfl) (of_decide_eq_true (by kernel_rfl)) (by kernel_rfl) rfl ?_) | (refine wpList_mstore rfl _ _ _ rfl rfl _ _ rfl 1 H _ _ rfl (.int _ _) rfl (by kernel_rfl) (of_decide_eq_true (by kernel_rfl)) (by kernel_rfl) rfl ?_) | (refine wpList_mstore rfl _ _ _ rfl rfl _ _ rfl 2 H _ _ rfl (.int _ _) rfl (by kernel_rfl) (of_decide_eq_true (by kernel_rfl)) (by kernel_rfl) rfl ?_) | (refine wpList_mstore rfl _ _ _ rfl rfl _ _ rfl 0 H _ _ rfl (.bool _) rfl (by kernel_rfl) (of_decide_eq_true (by kernel_rfl)) (by kernel_rfl) rfl ?_) | (refine wpList_mstore rfl _ _ _ rfl rfl _ _ rfl 1 H _ _ rfl (.bool _) rfl (by kernel_rfl) (of_decide_eq_true (by kernel_rfl)) (by kernel_rfl) rfl ?_) | (refine wpList_mstore rfl _ _ _ rfl rfl _ _ rfl 2 H _ _ rfl (.bool _) rfl (by kernel_rfl) (of_decide_eq_true (by kernel_rfl)) (by kernel_rfl) rfl ?_) | (refine wpList_mstore rfl _ _ _ rfl rfl _ _ rfl 0 H _ _ rfl (.pointer _) rfl (by kernel_rfl) (of_decide_eq_true (by kernel_rfl)) (by kernel_rfl) rfl ?_) | (refine wpList_mstore rfl _ _ _ rfl rfl _ _ rfl 1 H _ _ rfl (.pointer _) rfl (by kernel_rfl) (of_decide_eq_true (by kernel_rfl)) (by kernel_rfl) rfl ?_) | (refine wpList_mstore rfl _ _ _ rfl rfl _ _ rfl 2 H _ _ rfl (.pointer _) rfl (by kernel_rfl) (of_decide_eq_true (by kernel_rfl)) (by kernel_rfl) rfl ?_) | (refine wpList_mstore rfl _ _ _ rfl rfl _ _ rfl 0 H _ _ rfl (.string _) rfl (by kernel_rfl) (of_decide_eq_true (by kernel_rfl)) (by kernel_rfl) rfl ?_) | (refine wpList_mstore rfl _ _ _ rfl rfl _ _ rfl 1 H _ _ rfl (.string _) rfl (by kernel_rfl) (of_decide_eq_true (by kernel_rfl)) (by kernel_rfl) rfl ?_) | (refine wpList_mstore rfl _ _ _ rfl rfl _ _ rfl 2 H _ _ rfl (.string _) rfl (by kernel_rfl) (of_decide_eq_true (by kernel_rfl)) (by kernel_rfl) rfl ?_) | (refine wpList_mstore rfl _ _ _ rfl rfl _ _ rfl 0 H _ _ rfl (.slice _ _ _) rfl (by kernel_rfl) (of_decide_eq_true (by kernel_rfl)) (by kernel_rfl) rfl ?_) | (refine wpList_mstore rfl _ _ _ rfl rfl _ _ rfl 1 H _ _ rfl (.slice _ _ _) rfl (by kernel_rfl) (of_decide_eq_true (by kernel_rfl)) (by kernel_rfl) rfl ?_) | (refine wpList_mstore rfl _ _ _ rfl rfl _ _ rfl 2 H _ _ rfl (.slice _ _ _) rfl (by kernel_rfl) (of_decide_eq_true (by kernel_rfl)) (by kernel_rfl) rfl ?_)); clear H; intro w1 H; simp only [List.set_cons_zero, List.set_cons_succ, mp_set5, mp_set9, mp_all] at H)
      | (refine wpList_mnew rfl _ rfl H _ HZ.out ?_; clear H; intro _ w1 _ H)
      | (go_at_call 7; (with_reducible refine (QA.out _).mono ?_); rintro e w2 ⟨rfl, hB⟩; replace H := H.next hB; clear hB)
      | fail)
    go_ret
    exact ⟨rfl, H.toBelow⟩
  · have E : fillM { m with k := 1, sh := s, ct := 5, cl := L, la := y + 10 + 10 } 1 = { m with k := 1, sh := 0, ct := 0, cl := L, c0 := s, la := y + 10 + 10 } := rfl
    rw [E] at H
    clear E
    have ee := EE.out { m with k := 1, sh := 0, ct := 0, cl := L, c0 := s, la := y + 10 + 10 }
    go_wp2_with (first
      | go_skip | (refine wpList_mboxA rfl _ _ rfl H _ rfl ?_; clear H; intro _ w1 _ H) | (refine gate_load _ _ rfl ?_; first | (refine wpList_mloadA rfl _ _ rfl _ rfl 0 H _ rfl (by decide +kernel) (by kernel_rfl) ?_) | (refine wpList_mloadA rfl _ _ rfl _ rfl 1 H _ rfl (by decide +kernel) (by kernel_rfl) ?_) | (refine wpList_mloadA rfl _ _ rfl _ rfl 2 H _ rfl (by decide +kernel) (by kernel_rfl) ?_) | (refine wpList_mload1 rfl _ _ rfl _ _ rfl 0 H _ (.int _ _) rfl rfl (by decide +kernel) ?_) | (refine wpList_mload1 rfl _ _ rfl _ _ rfl 1 H _ (.int _ _) rfl rfl (by decide +kernel) ?_) | (refine wpList_mload1 rfl _ _ rfl _ _ rfl 2 H _ (.int _ _) rfl rfl (by decide +kernel) ?_) | (refine wpList_mload1 rfl _ _ rfl _ _ rfl 0 H _ (.bool _) rfl rfl (by decide +kernel) ?_) | (refine wpList_mload1 rfl _ _ rfl _ _ rfl 1 H _ (.bool _) rfl rfl (by decide +kernel) ?_) | (refine wpList_mload1 rfl _ _ rfl _ _ rfl 2 H _ (.bool _) rfl rfl (by decide +kernel) ?_) | (refine wpList_mload1 rfl _ _ rfl _ _ rfl 0 H _ (.pointer _) rfl rfl (by decide +kernel) ?_) | (refine wpList_mload1 rfl _ _ rfl _ _ rfl 1 H _ (.pointer _) rfl rfl (by decide +kernel) ?_) | (refine wpList_mload1 rfl _ _ rfl _ _ rfl 2 H _ (.pointer _) rfl rfl (by decide +kernel) ?_) | (refine wpList_mload1 rfl _ _ rfl _ _ rfl 0 H _ (.string _) rfl rfl (by decide +kernel) ?_) | (refine wpList_mload1 rfl _ _ rfl _ _ rfl 1 H _ (.string _) rfl rfl (by decide +kernel) ?_) | (refine wpList_mload1 rfl _ _ rfl _ _ rfl 2 H _ (.string _) rfl rfl (by decide +kernel) ?_) | (refine wpList_mload1 rfl _ _ rfl _ _ rfl 0 H _ (.slice _ _ _) rfl rfl (by decide +kernel) ?_) | (refine wpList_mload1 rfl _ _ rfl _ _ rfl 1 H _ (.slice _ _ _) rfl rfl (by decide +kernel) ?_) | (refine wpList_mload1 rfl _ _ rfl _ _ rfl 2 H _ (.slice _ _ _) rfl rfl (by decide +kernel) ?_)) | (refine gate_store _ _ _ rfl ?_; (first | (refine wpList_mstoreA rfl _ _ _ rfl rfl _ rfl 0 H _ _ rfl rfl (by kernel_rfl) (by kernel_rfl) (by kernel_rfl) ?_) | (refine wpList_mstoreA rfl _ _ _ rfl rfl _ rfl 1 H _ _ rfl rfl (by kernel_rfl) (by kernel_rfl) (by kernel_rfl) ?_) | (refine wpList_mstoreA rfl _ _ _ rfl rfl _ rfl 2 H _ _ rfl rfl (by kernel_rfl) (by kernel_rfl) (by kernel_rfl) ?_) | (refine wpList_mstore rfl _ _ _ rfl rfl _ _ rfl 0 H _ _ rfl (.int _ _) rfl (by kernel_rfl) (of_decide_eq_true (by kernel_rfl)) (by kernel_rfl) rfl ?_) | (refine wpList_mstore rfl _ _ _ rfl rfl _ _ rfl 1 H _ _ rfl (.int _ _) rfl (by kernel_rfl) (of_decide_eq_true (by kernel_rfl)) (by kernel_rfl) rfl ?_) | (refine wpList_mstore rfl _ _ _ rfl rfl _ _ rfl 2 H _ _ rfl (.int _ _) rfl (by kernel_rfl) (of_decide_eq_true (by kernel_rfl)) (by kernel_rfl) rfl ?_) | (refine wpList_mstore rfl _ _ _ rfl rfl _ _ rfl 0 H _ _ rfl (.bool _) rfl (by kernel_rfl) (of_decide_eq_true (by kernel_rfl)) (by kernel_rfl) rfl ?_) | (refine wpList_mstore rfl _ _ _ rfl rfl _ _ rfl 1 H _ _ rfl (.bool _) rfl (by kernel_rfl) (of_decide_eq_true (by kernel_rfl)) (by kernel_rfl) rfl ?_) | (refine wpList_mstore rfl _ _ _ rfl rfl _ _ rfl 2 H _ _ rfl (.bool _) rfl (by kernel_rfl) (of_decide_eq_true (by kernel_rfl)) (by kernel_rfl) rfl ?_) | (refine wpList_mstore rfl _ _ _ rfl rfl _ _ rfl 0 H _ _ rfl (.pointer _) rfl (by kernel_rfl) (of_decide_eq_true (by kernel_rfl)) (by kernel_rfl) rfl ?_) | (refine wpList_mstore rfl _ _ _ rfl rfl _ _ rfl 1 H _ _ rfl (.pointer _) rfl (by kernel_rfl) (of_decide_eq_true (by kernel_rfl)) (by kernel_rfl) rfl ?_) | (refine wpList_mstore rfl _ _ _ rfl rfl _ _ rfl 2 H _ _ rfl (.pointer _) rfl (by kernel_rfl) (of_decide_eq_true (by kernel_rfl)) (by kernel_rfl) rfl ?_) | (refine wpList_mstore rfl _ _ _ rfl rfl _ _ rfl 0 H _ _ rfl (.string _) rfl (by kernel_rfl) (of_decide_eq_true (by kernel_rfl)) (by kernel_rfl) rfl ?_) | (refine wpList_mstore rfl _ _ _ rfl rfl _ _ rfl 1 H _ _ rfl (.string _) rfl (by kernel_rfl) (of_decide_eq_true (by kernel_rfl)) (by kernel_rfl) rfl ?_) | (refine wpList_mstore rfl _ _ _ rfl rfl _ _ rfl 2 H _ _ rfl (.string _) rfl (by kernel_rfl) (of_decide_eq_true (by kernel_rfl)) (by kernel_rfl) rfl ?_) | (refine wpList_mstore rfl _ _ _ rfl rfl _ _ rfl 0 H _ _ rfl (.slice _ _ _) rfl (by kernel_rfl) (of_decide_eq_true (by kernel_rfl)) (by kernel_rfl) rfl ?_) | (refine wpList_mstore rfl _ _ _ rfl rfl _ _ rfl 1 H _ _ rfl (.slice _ _ _) rfl (by kernel_rfl) (of_decide_eq_true (by kernel_rfl)) (by kernel_rfl) rfl ?_) | (refine wpList_mstore rfl _ _ _ rfl rfl _ _ rfl 2 H _ _ rfl (.slice _ _ _) rfl (by kernel_rfl) (of_decide_eq_true (by kernel_rfl)) (by kernel_rfl) rfl ?_)); clear H; intro w1 H; simp only [List.set_cons_zero, List.set_cons_succ, mp_set6, mp_set9, mp_all] at H)
      | (refine wpList_mnew rfl _ rfl H _ HZ.out ?_; clear H; intro _ w1 _ H)
      | (go_at_call 7; (with_reducible refine (QA.out _).mono ?_); rintro e w2 ⟨rfl, hB⟩; replace H := H.next hB; clear hB)
      | fail)
    go_ret
    exact ⟨rfl, H.toBelow⟩
  · have E : fillM { m with k := 1, sh := s, ct := 5, cl := L, la := y + 10 + 10 } 2 = { m with k := 1, sh := 0, ct := 0, cl := L, c1 := s, la := y + 10 + 10 } := rfl
    rw [E] at H
    clear E
    have ee := EE.out { m with k := 1, sh := 0, ct := 0, cl := L, c1 := s, la := y + 10 + 10 }
    go_wp2_with (first
      | go_skip | (refine wpList_mboxA rfl _ _ rfl H _ rfl ?_; clear H; intro _ w1 _ H) | (refine gate_load _ _ rfl ?_; first | (refine wpList_mloadA rfl _ _ rfl _ rfl 0 H _ rfl (by decide +kernel) (by kernel_rfl) ?_) | (refine wpList_mloadA rfl _ _ rfl _ rfl 1 H _ rfl (by decide +kernel) (by kernel_rfl) ?_) | (refine wpList_mloadA rfl _ _ rfl _ rfl 2 H _ rfl (by decide +kernel) (by kernel_rfl) ?_) | (refine wpList_mload1 rfl _ _ rfl _ _ rfl 0 H _ (.int _ _) rfl rfl (by decide +kernel) ?_) | (refine wpList_mload1 rfl _ _ rfl _ _ rfl 1 H _ (.int _ _) rfl rfl (by decide +kernel) ?_) | (refine wpList_mload1 rfl _ _ rfl _ _ rfl 2 H _ (.int _ _) rfl rfl (by decide +kernel) ?_) | (refine wpList_mload1 rfl _ _ rfl _ _ rfl 0 H _ (.bool _) rfl rfl (by decide +kernel) ?_) | (refine wpList_mload1 rfl _ _ rfl _ _ rfl 1 H _ (.bool _) rfl rfl (by decide +kernel) ?_) | (refine wpList_mload1 rfl _ _ rfl _ _ rfl 2 H _ (.bool _) rfl rfl (by decide +kernel) ?_) | (refine wpList_mload1 rfl _ _ rfl _ _ rfl 0 H _ (.pointer _) rfl rfl (by decide +kernel) ?_) | (refine wpList_mload1 rfl _ _ rfl _ _ rfl 1 H _ (.pointer _) rfl rfl (by decide +kernel) ?_) | (refine wpList_mload1 rfl _ _ rfl _ _ rfl 2 H _ (.pointer _) rfl rfl (by decide +kernel) ?_) | (refine wpList_mload1 rfl _ _ rfl _ _ rfl 0 H _ (.string _) rfl rfl (by decide +kernel) ?_) | (refine wpList_mload1 rfl _ _ rfl _ _ rfl 1 H _ (.string _) rfl rfl (by decide +kernel) ?_) | (refine wpList_mload1 rfl _ _ rfl _ _ rfl 2 H _ (.string _) rfl rfl (by decide +kernel) ?_) | (refine wpList_mload1 rfl _ _ rfl _ _ rfl 0 H _ (.slice _ _ _) rfl rfl (by decide +kernel) ?_) | (refine wpList_mload1 rfl _ _ rfl _ _ rfl 1 H _ (.slice _ _ _) rfl rfl (by decide +kernel) ?_) | (refine wpList_mload1 rfl _ _ rfl _ _ rfl 2 H _ (.slice _ _ _) rfl rfl (by decide +kernel) ?_)) | (refine gate_store _ _ _ rfl ?_; (first | (refine wpList_mstoreA rfl _ _ _ rfl rfl _ rfl 0 H _ _ rfl rfl (by kernel_rfl) (by kernel_rfl) (by kernel_rfl) ?_) | (refine wpList_mstoreA rfl _ _ _ rfl rfl _ rfl 1 H _ _ rfl rfl (by kernel_rfl) (by kernel_rfl) (by kernel_rfl) ?_) | (refine wpList_mstoreA rfl _ _ _ rfl rfl _ rfl 2 H _ _ rfl rfl (by kernel_rfl) (by kernel_rfl) (by kernel_rfl) ?_) | (refine wpList_mstore rfl _ _ _ rfl rfl _ _ rfl 0 H _ _ rfl (.int _ _) rfl (by kernel_rfl) (of_decide_eq_true (by kernel_rfl)) (by kernel_rfl) rfl ?_) | (refine wpList_mstore rfl _ _ _ rfl rfl _ _ rfl 1 H _ _ rfl (.int _ _) rfl (by kernel_rfl) (of_decide_eq_true (by kernel_rfl)) (by kernel_rfl) rfl ?_) | (refine wpList_mstore rfl _ _ _ rfl rfl _ _ rfl 2 H _ _ rfl (.int _ _) rfl (by kernel_rfl) (of_decide_eq_true (by kernel_rfl)) (by kernel_rfl) rfl ?_) | (refine wpList_mstore rfl _ _ _ rfl rfl _ _ rfl 0 H _ _ rfl (.bool _) rfl (by kernel_rfl) (of_decide_eq_true (by kernel_rfl)) (by kernel_rfl) rfl ?_) | (refine wpList_mstore rfl _ _ _ rfl rfl _ _ rfl 1 H _ _ rfl (.bool _) rfl (by kernel_rfl) (of_decide_eq_true (by kernel_rfl)) (by kernel_rfl) rfl ?_) | (refine wpList_mstore rfl _ _ _ rfl rfl _ _ rfl 2 H _ _ rfl (.bool _) rfl (by kernel_rfl) (of_decide_eq_true (by kernel_rfl)) (by kernel_rfl) rfl ?_) | (refine wpList_mstore rfl _ _ _ rfl rfl _ _ rfl 0 H _ _ rfl (.pointer _) rfl (by kernel_rfl) (of_decide_eq_true (by kernel_rfl)) (by kernel_rfl) rfl ?_) | (refine wpList_mstore rfl _ _ _ rfl rfl _ _ rfl 1 H _ _ rfl (.pointer _) rfl (by kernel_rfl) (of_decide_eq_true (by kernel_rfl)) (by kernel_rfl) rfl ?_) | (refine wpList_mstore rfl _ _ _ rfl rfl _ _ rfl 2 H _ _ rfl (.pointer _) rfl (by kernel_rfl) (of_decide_eq_true (by kernel_rfl)) (by kernel_rfl) rfl ?_) | (refine wpList_mstore rfl _ _ _ rfl rfl _ _ rfl 0 H _ _ rfl (.string _) rfl (by kernel_rfl) (of_decide_eq_true (by kernel_rfl)) (by kernel_rfl) rfl ?_) | (refine wpList_mstore rfl _ _ _ rfl rfl _ _ rfl 1 H _ _ rfl (.string _) rfl (by kernel_rfl) (of_decide_eq_true (by kernel_rfl)) (by kernel_rfl) rfl ?_) | (refine wpList_mstore rfl _ _ _ rfl rfl _ _ rfl 2 H _ _ rfl (.string _) rfl (by kernel_rfl) (of_decide_eq_true (by kernel_rfl)) (by kernel_rfl) rfl ?_) | (refine wpList_mstore rfl _ _ _ rfl rfl _ _ rfl 0 H _ _ rfl (.slice _ _ _) rfl (by kernel_rfl) (of_decide_eq_true (by kernel_rfl)) (by kernel_rfl) rfl ?_) | (refine wpList_mstore rfl _ _ _ rfl rfl _ _ rfl 1 H _ _ rfl (.slice _ _ _) rfl (by kernel_rfl) (of_decide_eq_true (by kernel_rfl)) (by kernel_rfl) rfl ?_) | (refine wpList_mstore rfl _ _ _ rfl rfl _ _ rfl 2 H _ _ rfl (.slice _ _ _) rfl (by kernel_rfl) (of_decide_eq_true (by kernel_rfl)) (by kernel_rfl) rfl ?_)); clear H; intro w1 H; simp only [List.set_cons_zero, List.set_cons_succ, mp_set7, mp_set9, mp_all] at H)
      | (refine wpList_mnew rfl _ rfl H _ HZ.out ?_; clear H; intro _ w1 _ H)
      | (go_at_call 7; (with_reducible refine (QA.out _).mono ?_); rintro e w2 ⟨rfl, hB⟩; replace H := H.next hB; clear hB)
      | fail)
    go_ret
    exact ⟨rfl, H.toBelow⟩
  · have E : fillM { m with k := 1, sh := s, ct := 5, cl := L, la := y + 10 + 10 } 3 = { m with k := 1, sh := 0, ct := 0, cl := L, pr := s, la := y + 10 + 10 } := rfl
    rw [E] at H
    clear E
    have ee := EE.out { m with k := 1, sh := 0, ct := 0, cl := L, pr := s, la := y + 10 + 10 }
    go_wp2_with (first
      | go_skip | (refine wpList_mboxA rfl _ _ rfl H _ rfl ?_; clear H; intro _ w1 _ H) | (refine gate_load _ _ rfl ?_; first | (refine wpList_mloadA rfl _ _ rfl _ rfl 0 H _ rfl (by decide +kernel) (by kernel_rfl) ?_) | (refine wpList_mloadA rfl _ _ rfl _ rfl 1 H _ rfl (by decide +kernel) (by kernel_rfl) ?_) | (refine wpList_mloadA rfl _ _ rfl _ rfl 2 H _ rfl (by decide +kernel) (by kernel_rfl) ?_) | (refine wpList_mload1 rfl _ _ rfl _ _ rfl 0 H _ (.int _ _) rfl rfl (by decide +kernel) ?_) | (refine wpList_mload1 rfl _ _ rfl _ _ rfl 1 H _ (.int _ _) rfl rfl (by decide +kernel) ?_) | (refine wpList_mload1 rfl _ _ rfl _ _ rfl 2 H _ (.int _ _) rfl rfl (by decide +kernel) ?_) | (refine wpList_mload1 rfl _ _ rfl _ _ rfl 0 H _ (.bool _) rfl rfl (by decide +kernel) ?_) | (refine wpList_mload1 rfl _ _ rfl _ _ rfl 1 H _ (.bool _) rfl rfl (by decide +kernel) ?_) | (refine wpList_mload1 rfl _ _ rfl _ _ rfl 2 H _ (.bool _) rfl rfl (by decide +kernel) ?_) | (refine wpList_mload1 rfl _ _ rfl _ _ rfl 0 H _ (.pointer _) rfl rfl (by decide +kernel) ?_) | (refine wpList_mload1 rfl _ _ rfl _ _ rfl 1 H _ (.pointer _) rfl rfl (by decide +kernel) ?_) | (refine wpList_mload1 rfl _ _ rfl _ _ rfl 2 H _ (.pointer _) rfl rfl (by decide +kernel) ?_) | (refine wpList_mload1 rfl _ _ rfl _ _ rfl 0 H _ (.string _) rfl rfl (by decide +kernel) ?_) | (refine wpList_mload1 rfl _ _ rfl _ _ rfl 1 H _ (.string _) rfl rfl (by decide +kernel) ?_) | (refine wpList_mload1 rfl _ _ rfl _ _ rfl 2 H _ (.string _) rfl rfl (by decide +kernel) ?_) | (refine wpList_mload1 rfl _ _ rfl _ _ rfl 0 H _ (.slice _ _ _) rfl rfl (by decide +kernel) ?_) | (refine wpList_mload1 rfl _ _ rfl _ _ rfl 1 H _ (.slice _ _ _) rfl rfl (by decide +kernel) ?_) | (refine wpList_mload1 rfl _ _ rfl _ _ rfl 2 H _ (.slice _ _ _) rfl rfl (by decide +kernel) ?_)) | (refine gate_store _ _ _ rfl ?_; (first | (refine wpList_mstoreA rfl _ _ _ rfl rfl _ rfl 0 H _ _ rfl rfl (by kernel_rfl) (by kernel_rfl) (by kernel_rfl) ?_) | (refine wpList_mstoreA rfl _ _ _ rfl rfl _ rfl 1 H _ _ rfl rfl (by kernel_rfl) (by kernel_rfl) (by kernel_rfl) ?_) | (refine wpList_mstoreA rfl _ _ _ rfl rfl _ rfl 2 H _ _ rfl rfl (by kernel_rfl) (by kernel_rfl) (by kernel_rfl) ?_) | (refine wpList_mstore rfl _ _ _ rfl rfl _ _ rfl 0 H _ _ rfl (.int _ _) rfl (by kernel_rfl) (of_decide_eq_true (by kernel_rfl)) (by kernel_rfl) rfl ?_) | (refine wpList_mstore rfl _ _ _ rfl rfl _ _ rfl 1 H _ _ rfl (.int _ _) rfl (by kernel_rfl) (of_decide_eq_true (by kernel_rfl)) (by kernel_rfl) rfl ?_) | (refine wpList_mstore rfl _ _ _ rfl rfl _ _ rfl 2 H _ _ rfl (.int _ _) rfl (by kernel_rfl) (of_decide_eq_true (by kernel_rfl)) (by kernel_rfl) rfl ?_) | (refine wpList_mstore rfl _ _ _ rfl rfl _ _ rfl 0 H _ _ rfl (.bool _) rfl (by kernel_rfl) (of_decide_eq_true (by kernel_rfl)) (by kernel_rfl) rfl ?_) | (refine wpList_mstore rfl _ _ _ rfl rfl _ _ rfl 1 H _ _ rfl (.bool _) rfl (by kernel_rfl) (of_decide_eq_true (by kernel_rfl)) (by kernel_rfl) rfl ?_) | (refine wpList_mstore rfl _ _ _ rfl rfl _ _ rfl 2 H _ _ rfl (.bool _) rfl (by kernel_rfl) (of_decide_eq_true (by kernel_rfl)) (by kernel_rfl) rfl ?_) | (refine wpList_mstore rfl _ _ _ rfl rfl _ _ rfl 0 H _ _ rfl (.pointer _) rfl (by kernel_rfl) (of_decide_eq_true (by kernel_rfl)) (by kernel_rfl) rfl ?_) | (refine wpList_mstore rfl _ _ _ rfl rfl _ _ rfl 1 H _ _ rfl (.pointer _) rfl (by kernel_rfl) (of_decide_eq_true (by kernel_rfl)) (by kernel_rfl) rfl ?_) | (refine wpList_mstore rfl _ _ _ rfl rfl _ _ rfl 2 H _ _ rfl (.pointer _) rfl (by kernel_rfl) (of_decide_eq_true (by kernel_rfl)) (by kernel_rfl) rfl ?_) | (refine wpList_mstore rfl _ _ _ rfl rfl _ _ rfl 0 H _ _ rfl (.string _) rfl (by kernel_rfl) (of_decide_eq_true (by kernel_rfl)) (by kernel_rfl) rfl ?_) | (refine wpList_mstore rfl _ _ _ rfl rfl _ _ rfl 1 H _ _ rfl (.string _) rfl (by kernel_rfl) (of_decide_eq_true (by kernel_rfl)) (by kernel_rfl) rfl ?_) | (refine wpList_mstore rfl _ _ _ rfl rfl _ _ rfl 2 H _ _ rfl (.string _) rfl (by kernel_rfl) (of_decide_eq_true (by kernel_rfl)) (by kernel_rfl) rfl ?_) | (refine wpList_mstore rfl _ _ _ rfl rfl _ _ rfl 0 H _ _ rfl (.slice _ _ _) rfl (by kernel_rfl) (of_decide_eq_true (by kernel_rfl)) (by kernel_rfl) rfl ?_) | (refine wpList_mstore rfl _ _ _ rfl rfl _ _ rfl 1 H _ _ rfl (.slice _ _ _) rfl (by kernel_rfl) (of_decide_eq_true (by kernel_rfl)) (by kernel_rfl) rfl ?_) | (refine wpList_mstore rfl _ _ _ rfl rfl _ _ rfl 2 H _ _ rfl (.slice _ _ _) rfl (by kernel_rfl) (of_decide_eq_true (by kernel_rfl)) (by kernel_rfl) rfl ?_)); clear H; intro w1 H; simp only [List.set_cons_zero, List.set_cons_succ, mp_set8, mp_set9, mp_all] at H)
      | (refine wpList_mnew rfl _ rfl H _ HZ.out ?_; clear H; intro _ w1 _ H)
      | (go_at_call 7; (with_reducible refine (QA.out _).mono ?_); rintro e w2 ⟨rfl, hB⟩; replace H := H.next hB; clear hB)
      | fail)
    go_ret
    exact ⟨rfl, H.toBelow⟩
set_option maxHeartbeats 4000000 in
theorem five_no (c : Crt) (m : Mp) (a v u : Int) (b : Bool) (w : World) (hm : mayB { m with k := 1 } = false) :
    Calls Try.prog 3 #[.agg (askC c m a v u b)] w fun e w' => e = .returned (.bool true) ∧ Below w.heap.size w w' := by
  have HC := fun wr => mcheck_ct { m with k := 1 } wr
  rw [hm] at HC
  have QC := Lib.hid HC
  have QA := Lib.hid (fun wr => mawake_ct wr)
  clear HC hm
  have H := Mem.start w
  unfold mpV at QC
  go_enter Try.func3, Try.ntmps3
  go_wp2_with (first
    | go_skip | (refine wpList_mboxA rfl _ _ rfl H _ rfl ?_; clear H; intro R1 w1 _ H)
    | fail)
  refine wp_region_settled (by kernel_rfl) (by kernel_rfl) (fun q => [(some 16, .pointer (some ⟨R1, 9, none⟩)), (some 17, .agg (mpC m)), (some 18, .pointer (some ⟨R1, 37, none⟩)), (some 19, .int .u8 v), (some 20, .pointer (some ⟨R1, 36, none⟩)), (some 21, .int .u16 a), (some 22, .pointer (some ⟨R1, 38, none⟩)), (some 23, .int .i64 u), (some 24, .int .u32 (u % 4294967296)), (some 3, .pointer (some ⟨q, 0, none⟩)), (none, undef), (some 4, .int .u8 v), (some 5, .int .u16 a), (some 6, .int .u32 (u % 4294967296))]) (WBox _ _ _ 9 10 (mpC mp0) (mpC m) _) 112 (by rfl) (fun _ => by rfl) (fun _ => by rfl) (fun _ => by rfl) (WBox.start H) ⟨?p0, ?p1, ?p2, ?p3, ?p4, ?p5, ?p6, ?p7, ?p8, ?p9, ?p10, ?p11, ?p12, ?p13, trivial⟩ ?_
  case p0 =>
    intro D q a' w' hk he hl hW
    have e : a'.tmps.getD 1 undef = .pointer (some ⟨R1, 0, none⟩) := (hl 1).trans ((lookS_absent _ 0 (by simp)).trans rfl)
    exact wp_val (.pointer (some ⟨R1, 9, none⟩)) (by simp only [execOp, Act.eval]; rw [e]; kernel_rfl) ⟨q, fun _ => rfl, ⟨_, rfl, rfl⟩, hW.keep (by decide) (by decide)⟩
  case p1 =>
    intro D q a' w' hk he hl hW
    have e0 := (hl 16).trans (lookS_at rfl (he ⟨0, .data⟩ (by simp) rfl) rfl)
    exact wp_sload _ _ rfl _ _ e0 0 hW.base _ (mpC m) rfl (by decide +kernel) (by kernel_rfl) (ask_part c m a v u b) ⟨q, fun _ => rfl, ⟨_, rfl, rfl⟩, hW.keep (by decide) (by decide)⟩
  case p2 =>
    intro D q a' w' hk he hl hW
    have e : a'.tmps.getD 1 undef = .pointer (some ⟨R1, 0, none⟩) := (hl 1).trans ((lookS_absent _ 0 (by simp)).trans rfl)
    exact wp_val (.pointer (some ⟨R1, 37, none⟩)) (by simp only [execOp, Act.eval]; rw [e]; kernel_rfl) ⟨q, fun _ => rfl, ⟨_, rfl, rfl⟩, hW.keep (by decide) (by decide)⟩
  case p3 =>
    intro D q a' w' hk he hl hW
    have e2 := (hl 18).trans (lookS_at rfl (he ⟨2, .data⟩ (by simp) rfl) rfl)
    exact wp_sload1 _ _ rfl _ _ e2 0 hW.base _ (.int .u8 v) rfl rfl (by decide +kernel) ⟨q, fun _ => rfl, ⟨_, rfl, rfl⟩, hW.keep (by decide) (by decide)⟩
  case p4 =>
    intro D q a' w' hk he hl hW
    have e : a'.tmps.getD 1 undef = .pointer (some ⟨R1, 0, none⟩) := (hl 1).trans ((lookS_absent _ 0 (by simp)).trans rfl)
    exact wp_val (.pointer (some ⟨R1, 36, none⟩)) (by simp only [execOp, Act.eval]; rw [e]; kernel_rfl) ⟨q, fun _ => rfl, ⟨_, rfl, rfl⟩, hW.keep (by decide) (by decide)⟩
  case p5 =>
    intro D q a' w' hk he hl hW
    have e4 := (hl 20).trans (lookS_at rfl (he ⟨4, .data⟩ (by simp) rfl) rfl)
    exact wp_sload1 _ _ rfl _ _ e4 0 hW.base _ (.int .u16 a) rfl rfl (by decide +kernel) ⟨q, fun _ => rfl, ⟨_, rfl, rfl⟩, hW.keep (by decide) (by decide)⟩
  case p6 =>
    intro D q a' w' hk he hl hW
    have e : a'.tmps.getD 1 undef = .pointer (some ⟨R1, 0, none⟩) := (hl 1).trans ((lookS_absent _ 0 (by simp)).trans rfl)
    exact wp_val (.pointer (some ⟨R1, 38, none⟩)) (by simp only [execOp, Act.eval]; rw [e]; kernel_rfl) ⟨q, fun _ => rfl, ⟨_, rfl, rfl⟩, hW.keep (by decide) (by decide)⟩
  case p7 =>
    intro D q a' w' hk he hl hW
    have e6 := (hl 22).trans (lookS_at rfl (he ⟨6, .data⟩ (by simp) rfl) rfl)
    exact wp_sload1 _ _ rfl _ _ e6 0 hW.base _ (.int .i64 u) rfl rfl (by decide +kernel) ⟨q, fun _ => rfl, ⟨_, rfl, rfl⟩, hW.keep (by decide) (by decide)⟩
  case p8 =>
    intro D q a' w' hk he hl hW
    have e7 := (hl 23).trans (lookS_at rfl (he ⟨7, .data⟩ (by simp) rfl) rfl)
    exact wp_val (.int .u32 (u % 4294967296)) (by simp only [execOp, Act.eval]; rw [e7]; kernel_rfl) ⟨q, fun _ => rfl, ⟨_, rfl, rfl⟩, hW.keep (by decide) (by decide)⟩
  case p9 =>
    intro D q a' w' hk he hl hW
    exact wp_salloc _ rfl hW.base (mpC mp0) alloc_map fun q1 w1 hM => ⟨q1, fun j => by simp only [lookS, hk, Bool.false_eq_true, if_false], ⟨_, rfl, rfl⟩, hW.alloc hk (by decide) hM⟩
  case p10 =>
    intro D q a' w' hk he hl hW
    have e9 := (hl 3).trans (lookS_at rfl (he ⟨9, .data⟩ (by simp) rfl) rfl)
    have e1 := (hl 17).trans (lookS_at rfl (he ⟨1, .data⟩ (by simp) rfl) rfl)
    exact wp_sstoreA _ _ _ rfl rfl q e9 0 (hW.on (he ⟨9, .data⟩ (by simp) rfl) hk) (mpC mp0) (mpC m) rfl e1 (by kernel_rfl) (by kernel_rfl) (by kernel_rfl) fun w1 hM => ⟨q, fun _ => rfl, ⟨undef, rfl, rfl⟩, WBox.store (he ⟨9, .data⟩ (by simp) rfl) hM⟩
  case p11 =>
    intro D q a' w' hk he hl hW
    have e3 := (hl 19).trans (lookS_at rfl (he ⟨3, .data⟩ (by simp) rfl) rfl)
    exact wp_val (.int .u8 v) (by simp only [execOp, Act.eval]; rw [e3]; kernel_rfl) ⟨q, fun _ => rfl, ⟨_, rfl, rfl⟩, hW.keep (by decide) (by decide)⟩
  case p12 =>
    intro D q a' w' hk he hl hW
    have e5 := (hl 21).trans (lookS_at rfl (he ⟨5, .data⟩ (by simp) rfl) rfl)
    exact wp_val (.int .u16 a) (by simp only [execOp, Act.eval]; rw [e5]; kernel_rfl) ⟨q, fun _ => rfl, ⟨_, rfl, rfl⟩, hW.keep (by decide) (by decide)⟩
  case p13 =>
    intro D q a' w' hk he hl hW
    have e8 := (hl 24).trans (lookS_at rfl (he ⟨8, .data⟩ (by simp) rfl) rfl)
    exact wp_val (.int .u32 (u % 4294967296)) (by simp only [execOp, Act.eval]; rw [e8]; kernel_rfl) ⟨q, fun _ => rfl, ⟨_, rfl, rfl⟩, hW.keep (by decide) (by decide)⟩
  intro D q' w' hD hW
  clear H
  have H := hW.done (hD 9 (by decide)) (hD 10 (by decide))
  clear hD hW
  simp only [putAll, List.foldl_cons, List.foldl_nil, Act.put, List.setIfInBounds_toArray, List.set_cons_succ, List.set_cons_zero]
  go_wp2_with (first
    | (go_at_call 6; (with_reducible refine (QC.out _).mono ?_); rintro e w2 ⟨rfl, hB⟩; replace H := H.next hB; clear hB)
    | (go_at_call 7; (with_reducible refine (QA.out _).mono ?_); rintro e w2 ⟨rfl, hB⟩; replace H := H.next hB; clear hB)
    | go_skip | (refine wpList_mboxA rfl _ _ rfl H _ rfl ?_; clear H; intro _ w1 _ H) | (refine gate_load _ _ rfl ?_; first | (refine wpList_mloadA rfl _ _ rfl _ rfl 0 H _ rfl (by decide +kernel) (by kernel_rfl) ?_) | (refine wpList_mloadA rfl _ _ rfl _ rfl 1 H _ rfl (by decide +kernel) (by kernel_rfl) ?_) | (refine wpList_mload1 rfl _ _ rfl _ _ rfl 0 H _ (.int _ _) rfl rfl (by decide +kernel) ?_) | (refine wpList_mload1 rfl _ _ rfl _ _ rfl 1 H _ (.int _ _) rfl rfl (by decide +kernel) ?_) | (refine wpList_mload1 rfl _ _ rfl _ _ rfl 0 H _ (.bool _) rfl rfl (by decide +kernel) ?_) | (refine wpList_mload1 rfl _ _ rfl _ _ rfl 1 H _ (.bool _) rfl rfl (by decide +kernel) ?_) | (refine wpList_mload1 rfl _ _ rfl _ _ rfl 0 H _ (.pointer _) rfl rfl (by decide +kernel) ?_) | (refine wpList_mload1 rfl _ _ rfl _ _ rfl 1 H _ (.pointer _) rfl rfl (by decide +kernel) ?_) | (refine wpList_mload1 rfl _ _ rfl _ _ rfl 0 H _ (.string _) rfl rfl (by decide +kernel) ?_) | (refine wpList_mload1 rfl _ _ rfl _ _ rfl 1 H _ (.string _) rfl rfl (by decide +kernel) ?_) | (refine wpList_mload1 rfl _ _ rfl _ _ rfl 0 H _ (.slice _ _ _) rfl rfl (by decide +kernel) ?_) | (refine wpList_mload1 rfl _ _ rfl _ _ rfl 1 H _ (.slice _ _ _) rfl rfl (by decide +kernel) ?_)) | (refine gate_store _ _ _ rfl ?_; (first | (refine wpList_mstoreA rfl _ _ _ rfl rfl _ rfl 0 H _ _ rfl rfl (by kernel_rfl) (by kernel_rfl) (by kernel_rfl) ?_) | (refine wpList_mstoreA rfl _ _ _ rfl rfl _ rfl 1 H _ _ rfl rfl (by kernel_rfl) (by kernel_rfl) (by kernel_rfl) ?_) | (refine wpList_mstore rfl _ _ _ rfl rfl _ _ rfl 0 H _ _ rfl (.int _ _) rfl (by kernel_rfl) (of_decide_eq_true (by kernel_rfl)) (by kernel_rfl) rfl ?_) | (refine wpList_mstore rfl _ _ _ rfl rfl _ _ rfl 1 H _ _ rfl (.int _ _) rfl (by kernel_rfl) (of_decide_eq_true (by kernel_rfl)) (by kernel_rfl) rfl ?_) | (refine wpList_mstore rfl _ _ _ rfl rfl _ _ rfl 0 H _ _ rfl (.bool _) rfl (by kernel_rfl) (of_decide_eq_true (by kernel_rfl)) (by kernel_rfl) rfl ?_) | (refine wpList_mstore rfl _ _ _ rfl rfl _ _ rfl 1 H _ _ rfl (.bool _) rfl (by kernel_rfl) (of_decide_eq_true (by kernel_rfl)) (by kernel_rfl) rfl ?_) | (refine wpList_mstore rfl _ _ _ rfl rfl _ _ rfl 0 H _ _ rfl (.pointer _) rfl (by kernel_rfl) (of_decide_eq_true (by kernel_rfl)) (by kernel_rfl) rfl ?_) | (refine wpList_mstore rfl _ _ _ rfl rfl _ _ rfl 1 H _ _ rfl (.pointer _) rfl (by kernel_rfl) (of_decide_eq_true (by kernel_rfl)) (by kernel_rfl) rfl ?_) | (refine wpList_mstore rfl _ _ _ rfl rfl _ _ rfl 0 H _ _ rfl (.string _) rfl (by kernel_rfl) (of_decide_eq_true (by kernel_rfl)) (by kernel_rfl) rfl ?_) | (refine wpList_mstore rfl _ _ _ rfl rfl _ _ rfl 1 H _ _ rfl (.string _) rfl (by kernel_rfl) (of_decide_eq_true (by kernel_rfl)) (by kernel_rfl) rfl ?_) | (refine wpList_mstore rfl _ _ _ rfl rfl _ _ rfl 0 H _ _ rfl (.slice _ _ _) rfl (by kernel_rfl) (of_decide_eq_true (by kernel_rfl)) (by kernel_rfl) rfl ?_) | (refine wpList_mstore rfl _ _ _ rfl rfl _ _ rfl 1 H _ _ rfl (.slice _ _ _) rfl (by kernel_rfl) (of_decide_eq_true (by kernel_rfl)) (by kernel_rfl) rfl ?_)); clear H; intro w1 H; simp only [List.set_cons_zero, List.set_cons_succ, mp_all, mp_set0] at H)
    | fail)
  go_ret
  exact ⟨rfl, H.toBelow⟩
theorem five_walk (c : Crt) (m : Mp) (a v u : Int) (b : Bool) (w : World) (ok : MpOk m) (a0 : 0 ≤ a) (a1 : a < 65536) (v0 : 0 ≤ v) (v1 : v < 256) :
    Calls Try.prog 3 #[.agg (askC c m a v u b)] w fun e w' => e = .returned (.bool true) ∧ Below w.heap.size w w' := by
  cases hm : mayB { m with k := 1 }
  · exact five_no c m a v u b w hm
  · exact five_yes c m a v u b w ok a0 a1 v0 v1 hm
end Go.Proofs.Ytoeggmbcngccpaa
