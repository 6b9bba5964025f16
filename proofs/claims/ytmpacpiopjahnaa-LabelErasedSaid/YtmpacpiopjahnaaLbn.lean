/-
  Contracts of the document's plain answers for bits, and of the laws' own helpers, over this seat's translation. Each value of a byte is from 0 to 255.
-/
import Derived.Test.YtmpacpiopjahnaaLbm
namespace Go.Proofs.Ytmpacpiopjahnaa
open Go.RowKit

/-! ### plain arithmetic -/
def hv (a : Int) (k : Nat) : Int := a / 2 ^ k
theorem hv_zero (a : Int) : hv a 0 = a := by simp [hv]
theorem hv_succ (a : Int) (k : Nat) : hv a k / 2 = hv a (k + 1) := by
  unfold hv
  rw [Int.ediv_ediv_of_nonneg (Int.pow_nonneg (by omega)), Int.pow_succ]
theorem hv_bounds (a : Int) (k : Nat) (h0 : 0 ≤ a) (h1 : a < 256) : 0 ≤ hv a k ∧ hv a k < 256 := shr_bounds a k h0 h1
def rb (a : Int) (k : Nat) : Int := hv a k % 2
theorem rb_two (a : Int) (k : Nat) : rb a k = 0 ∨ rb a k = 1 := by unfold rb; omega
theorem rb_bitV (a i : Int) (h0 : 0 ≤ i) (h1 : i ≤ 7) : rb a i.toNat = bitV a i := by rw [bitV, if_pos ⟨h0, h1⟩]; rfl

def pw (k : Nat) : Int := 2 ^ k
theorem pw_zero : pw 0 = 1 := rfl
theorem pw_succ (k : Nat) : pw (k + 1) = 2 * pw k := by unfold pw; rw [Int.pow_succ]; omega
theorem pw_bounds : ∀ k : Nat, k ≤ 8 → 0 ≤ pw k ∧ pw k ≤ 256
  | 0, _ | 1, _ | 2, _ | 3, _ | 4, _ | 5, _ | 6, _ | 7, _ | 8, _ => by simp [pw]

/-- The bits of two, put together by f, from the lowest on. -/
def acc (f : Int → Int → Bool) (a b : Int) : Nat → Int
  | 0 => 0
  | k + 1 => acc f a b k + if f (rb a k) (rb b k) then pw k else 0
theorem acc_bounds (f : Int → Int → Bool) (a b : Int) (k : Nat) : 0 ≤ acc f a b k ∧ acc f a b k < pw k := by
  induction k with
  | zero => simp [acc, pw]
  | succ k ih =>
    rw [acc, pw_succ]
    obtain ⟨h0, h1⟩ := ih
    split <;> omega
def fand (x y : Int) : Bool := x == 1 && y == 1
def forr (x y : Int) : Bool := x == 1 || y == 1
def fxor (x y : Int) : Bool := x != y

/-- The same in numbers that the kernel reckons with. -/
def accN (f : Nat → Nat → Bool) (a b : Nat) : Nat → Nat
  | 0 => 0
  | k + 1 => accN f a b k + if f (a / 2 ^ k % 2) (b / 2 ^ k % 2) then 2 ^ k else 0
theorem acc_accN (f : Int → Int → Bool) (g : Nat → Nat → Bool) (hg : ∀ x y : Nat, f x y = g x y) (a b k : Nat) : acc f a b k = accN g a b k := by
  induction k with
  | zero => rfl
  | succ k ih =>
    rw [acc, accN, ih]
    have h (a : Nat) : rb a k = ((a / 2 ^ k % 2 : Nat) : Int) := by unfold rb hv; simp
    rw [h a, h b, hg]
    split <;> simp [pw]
theorem accN_of (f : Nat → Nat → Bool) (a b z : Nat) (hz : z < 256) (h : ∀ k, k < 8 → f (a / 2 ^ k % 2) (b / 2 ^ k % 2) = z.testBit k) : accN f a b 8 = z := by
  have e : ∀ k, k < 8 → accN f a b (k + 1) = accN f a b k + 2 ^ k * (z / 2 ^ k % 2) := fun k hk => by
    rw [accN, h k hk, Nat.testBit_eq_decide_div_mod_eq]
    have : z / 2 ^ k % 2 < 2 := Nat.mod_lt _ (by omega)
    by_cases hb : z / 2 ^ k % 2 = 1
    · simp [hb]
    · have : z / 2 ^ k % 2 = 0 := by omega
      simp [this]
  rw [e 7 (by omega), e 6 (by omega), e 5 (by omega), e 4 (by omega), e 3 (by omega), e 2 (by omega), e 1 (by omega), e 0 (by omega), accN]
  simp only [Nat.reducePow, Nat.div_one]
  omega
theorem bit_one (a k : Nat) : (a / 2 ^ k % 2 == 1) = a.testBit k := by rw [Nat.testBit_eq_decide_div_mod_eq]; rfl
theorem bit_ne (a b k : Nat) : (a / 2 ^ k % 2 != b / 2 ^ k % 2) = (a.testBit k ^^ b.testBit k) := by
  rw [Nat.testBit_eq_decide_div_mod_eq, Nat.testBit_eq_decide_div_mod_eq]
  generalize a / 2 ^ k = x
  generalize b / 2 ^ k = y
  rcases Nat.mod_two_eq_zero_or_one x with h | h <;> rcases Nat.mod_two_eq_zero_or_one y with g | g <;> simp [h, g]
theorem accN_and (a b : Nat) (h : a < 256) : accN (fun x y => x == 1 && y == 1) a b 8 = a &&& b :=
  accN_of _ a b _ (Nat.lt_of_le_of_lt Nat.and_le_left h) fun k _ => by rw [bit_one, bit_one, Nat.testBit_and]
theorem accN_or (a b : Nat) (h : a < 256) (g : b < 256) : accN (fun x y => x == 1 || y == 1) a b 8 = a ||| b :=
  accN_of _ a b _ (Nat.or_lt_two_pow (n := 8) h g) fun k _ => by rw [bit_one, bit_one, Nat.testBit_or]
theorem accN_xor (a b : Nat) (h : a < 256) (g : b < 256) : accN (fun x y => x != y) a b 8 = a ^^^ b :=
  accN_of _ a b _ (Nat.xor_lt_two_pow (n := 8) h g) fun k _ => by rw [bit_ne, Nat.testBit_xor]
theorem beq_one (x : Nat) : ((x : Int) == 1) = (x == 1) := by rw [Bool.eq_iff_iff]; simp; omega
theorem bne_nat (x y : Nat) : ((x : Int) != y) = (x != y) := by rw [Bool.eq_iff_iff]; simp; omega
theorem acc_and (a b : Int) (h0 : 0 ≤ a) (h1 : a < 256) (g0 : 0 ≤ b) (g1 : b < 256) : acc fand a b 8 = bits .and .u8 a b := by
  rw [u8_and a b h0 h1 g0 g1]
  obtain ⟨x, rfl⟩ := Int.eq_ofNat_of_zero_le h0
  obtain ⟨y, rfl⟩ := Int.eq_ofNat_of_zero_le g0
  rw [acc_accN fand (fun x y => x == 1 && y == 1) (fun x y => by rw [fand, beq_one, beq_one])]
  exact congrArg Nat.cast (accN_and x y (by omega))
theorem acc_or (a b : Int) (h0 : 0 ≤ a) (h1 : a < 256) (g0 : 0 ≤ b) (g1 : b < 256) : acc forr a b 8 = bits .or .u8 a b := by
  rw [u8_or a b h0 h1 g0 g1]
  obtain ⟨x, rfl⟩ := Int.eq_ofNat_of_zero_le h0
  obtain ⟨y, rfl⟩ := Int.eq_ofNat_of_zero_le g0
  rw [acc_accN forr (fun x y => x == 1 || y == 1) (fun x y => by rw [forr, beq_one, beq_one])]
  exact congrArg Nat.cast (accN_or x y (by omega) (by omega))
theorem acc_xor (a b : Int) (h0 : 0 ≤ a) (h1 : a < 256) (g0 : 0 ≤ b) (g1 : b < 256) : acc fxor a b 8 = bits .xor .u8 a b := by
  rw [u8_xor a b h0 h1 g0 g1]
  obtain ⟨x, rfl⟩ := Int.eq_ofNat_of_zero_le h0
  obtain ⟨y, rfl⟩ := Int.eq_ofNat_of_zero_le g0
  rw [acc_accN fxor (fun x y => x != y) (fun x y => by rw [fxor, bne_nat])]
  exact congrArg Nat.cast (accN_xor x y (by omega) (by omega))

/-! ### the document's bit -/
set_option maxHeartbeats 400000 in
theorem rb_ct (a i : Int) (w : World) (h0 : 0 ≤ i) (h7 : i ≤ 7) (a0 : 0 ≤ a) (a1 : a < 256) :
    Calls Try.prog 30 #[.int .u8 a, .int .i64 i] w fun e w' => e = .returned (.int .i64 (rb a i.toNat)) ∧ w = w' := by
  obtain ⟨n, rfl⟩ := Int.eq_ofNat_of_zero_le h0
  rw [Int.toNat_natCast]
  go_enter Try.func30, Try.ntmps30
  go_wp2
  go_loop [5, 6] (fun v i => ∃ k : Nat, k ≤ n ∧ i = .int .i64 k ∧ v = .int .i64 (hv a k)) (fun _ i => n - (intOf i).toNat)
  case atStart => exact ⟨0, Nat.zero_le _, rfl, by rw [hv_zero]⟩
  case round =>
    obtain ⟨k, hk, rfl, rfl⟩ := hrel
    obtain ⟨b0, b1⟩ := hv_bounds a k a0 a1
    have hs := hv_succ a k
    have Hs := Lib.hid hs
    clear hs
    by_cases hlt : k < n
    · go_wp2
      go_round
      case rel => exact ⟨k + 1, by omega, by go_num, by rw [← Hs.out]⟩
      case measure => simp [intOf]; omega
    · obtain rfl : k = n := by omega
      go_wp2
      go_ret
      exact ⟨rfl, rfl⟩

def BitsP (v : Int) (w : World) (e : Ending) (w' : World) : Prop := e = .returned (.int .u8 v) ∧ w = w'
set_option maxHeartbeats 1000000 in
theorem rbits0_ct (a b : Int) (w : World) (a0 : 0 ≤ a) (a1 : a < 256) (b0 : 0 ≤ b) (b1 : b < 256) :
    Calls Try.prog 21 #[.int .u8 a, .int .u8 b, .int .i64 0] w fun e w' => e = .returned (.int .u8 (bits .and .u8 a b)) ∧ w = w' := by
  have hfin := acc_and a b a0 a1 b0 b1
  have Hfin := Lib.hid hfin
  clear hfin
  go_enter Try.func21, Try.ntmps21
  go_wp2_with fail
  go_loop [7, 8, 9] (fun o p i => ∃ k : Nat, k ≤ 8 ∧ i = .int .i64 k ∧ o = .int .i64 (acc fand a b k) ∧ p = .int .i64 (pw k)) (fun _ _ i => 8 - (intOf i).toNat)
  case atStart => exact ⟨0, Nat.zero_le _, rfl, rfl, rfl⟩
  case round =>
    obtain ⟨k, hk, rfl, rfl, rfl⟩ := hrel
    obtain ⟨c0, c1⟩ := acc_bounds fand a b k
    obtain ⟨p0, p1⟩ := pw_bounds k hk
    by_cases hlt : k < 8
    · have hp : pw k ≤ 128 := by have := pw_bounds (k + 1) (by omega); rw [pw_succ] at this; omega
      have hq := pw_succ k
      have Hq := Lib.hid hq
      clear hq
      rcases rb_two a k with hx | hx <;> rcases rb_two b k with hy | hy
      all_goals
        have ha : acc fand a b (k + 1) = acc fand a b k + if fand (rb a k) (rb b k) then pw k else 0 := rfl
        rw [hx, hy] at ha
        have Hx := Lib.hid hx
        have Hy := Lib.hid hy
        have Ha := Lib.hid ha
        clear hx hy ha
        go_wp2_with fail
        refine (rb_ct a k _ (by omega) (by omega) a0 a1).mono ?_
        rintro e w' ⟨rfl, rfl⟩
        rw [Int.toNat_natCast, Hx.out]
        go_wp2_with fail
        refine (rb_ct b k _ (by omega) (by omega) b0 b1).mono ?_
        rintro e w' ⟨rfl, rfl⟩
        rw [Int.toNat_natCast, Hy.out]
        go_wp2
        go_round
        case rel => exact ⟨k + 1, by omega, by go_num, by rw [Ha.out]; simp [fand], by rw [Hq.out]⟩
        case measure => simp [intOf]; omega
    · obtain rfl : k = 8 := by omega
      have c2 : acc fand a b 8 < 256 := c1
      go_wp2
      go_ret
      exact ⟨by rw [← Hfin.out]; rfl, rfl⟩
set_option maxHeartbeats 1000000 in
theorem rbits1_ct (a b : Int) (w : World) (a0 : 0 ≤ a) (a1 : a < 256) (b0 : 0 ≤ b) (b1 : b < 256) :
    Calls Try.prog 21 #[.int .u8 a, .int .u8 b, .int .i64 1] w fun e w' => e = .returned (.int .u8 (bits .or .u8 a b)) ∧ w = w' := by
  have hfin := acc_or a b a0 a1 b0 b1
  have Hfin := Lib.hid hfin
  clear hfin
  go_enter Try.func21, Try.ntmps21
  go_wp2_with fail
  go_loop [7, 8, 9] (fun o p i => ∃ k : Nat, k ≤ 8 ∧ i = .int .i64 k ∧ o = .int .i64 (acc forr a b k) ∧ p = .int .i64 (pw k)) (fun _ _ i => 8 - (intOf i).toNat)
  case atStart => exact ⟨0, Nat.zero_le _, rfl, rfl, rfl⟩
  case round =>
    obtain ⟨k, hk, rfl, rfl, rfl⟩ := hrel
    obtain ⟨c0, c1⟩ := acc_bounds forr a b k
    obtain ⟨p0, p1⟩ := pw_bounds k hk
    by_cases hlt : k < 8
    · have hp : pw k ≤ 128 := by have := pw_bounds (k + 1) (by omega); rw [pw_succ] at this; omega
      have hq := pw_succ k
      have Hq := Lib.hid hq
      clear hq
      rcases rb_two a k with hx | hx <;> rcases rb_two b k with hy | hy
      all_goals
        have ha : acc forr a b (k + 1) = acc forr a b k + if forr (rb a k) (rb b k) then pw k else 0 := rfl
        rw [hx, hy] at ha
        have Hx := Lib.hid hx
        have Hy := Lib.hid hy
        have Ha := Lib.hid ha
        clear hx hy ha
        go_wp2_with fail
        refine (rb_ct a k _ (by omega) (by omega) a0 a1).mono ?_
        rintro e w' ⟨rfl, rfl⟩
        rw [Int.toNat_natCast, Hx.out]
        go_wp2_with fail
        refine (rb_ct b k _ (by omega) (by omega) b0 b1).mono ?_
        rintro e w' ⟨rfl, rfl⟩
        rw [Int.toNat_natCast, Hy.out]
        go_wp2
        go_round
        case rel => exact ⟨k + 1, by omega, by go_num, by rw [Ha.out]; simp [forr], by rw [Hq.out]⟩
        case measure => simp [intOf]; omega
    · obtain rfl : k = 8 := by omega
      have c2 : acc forr a b 8 < 256 := c1
      go_wp2
      go_ret
      exact ⟨by rw [← Hfin.out]; rfl, rfl⟩
set_option maxHeartbeats 1000000 in
theorem rbits2_ct (a b : Int) (w : World) (a0 : 0 ≤ a) (a1 : a < 256) (b0 : 0 ≤ b) (b1 : b < 256) :
    Calls Try.prog 21 #[.int .u8 a, .int .u8 b, .int .i64 2] w fun e w' => e = .returned (.int .u8 (bits .xor .u8 a b)) ∧ w = w' := by
  have hfin := acc_xor a b a0 a1 b0 b1
  have Hfin := Lib.hid hfin
  clear hfin
  go_enter Try.func21, Try.ntmps21
  go_wp2_with fail
  go_loop [7, 8, 9] (fun o p i => ∃ k : Nat, k ≤ 8 ∧ i = .int .i64 k ∧ o = .int .i64 (acc fxor a b k) ∧ p = .int .i64 (pw k)) (fun _ _ i => 8 - (intOf i).toNat)
  case atStart => exact ⟨0, Nat.zero_le _, rfl, rfl, rfl⟩
  case round =>
    obtain ⟨k, hk, rfl, rfl, rfl⟩ := hrel
    obtain ⟨c0, c1⟩ := acc_bounds fxor a b k
    obtain ⟨p0, p1⟩ := pw_bounds k hk
    by_cases hlt : k < 8
    · have hp : pw k ≤ 128 := by have := pw_bounds (k + 1) (by omega); rw [pw_succ] at this; omega
      have hq := pw_succ k
      have Hq := Lib.hid hq
      clear hq
      rcases rb_two a k with hx | hx <;> rcases rb_two b k with hy | hy
      all_goals
        have ha : acc fxor a b (k + 1) = acc fxor a b k + if fxor (rb a k) (rb b k) then pw k else 0 := rfl
        rw [hx, hy] at ha
        have Hx := Lib.hid hx
        have Hy := Lib.hid hy
        have Ha := Lib.hid ha
        clear hx hy ha
        go_wp2_with fail
        refine (rb_ct a k _ (by omega) (by omega) a0 a1).mono ?_
        rintro e w' ⟨rfl, rfl⟩
        rw [Int.toNat_natCast, Hx.out]
        go_wp2_with fail
        refine (rb_ct b k _ (by omega) (by omega) b0 b1).mono ?_
        rintro e w' ⟨rfl, rfl⟩
        rw [Int.toNat_natCast, Hy.out]
        go_wp2
        go_round
        case rel => exact ⟨k + 1, by omega, by go_num, by rw [Ha.out]; simp [fxor], by rw [Hq.out]⟩
        case measure => simp [intOf]; omega
    · obtain rfl : k = 8 := by omega
      have c2 : acc fxor a b 8 < 256 := c1
      go_wp2
      go_ret
      exact ⟨by rw [← Hfin.out]; rfl, rfl⟩

set_option maxHeartbeats 400000 in
theorem rbit_ct (a i : Int) (s : Bool) (w : World) (a0 : 0 ≤ a) (a1 : a < 256) :
    Calls Try.prog 25 #[.agg #[.int .u8 a, .bool s], .int .i64 i] w fun e w' => e = .returned (.agg #[.int .u8 (bitV a i), .bool s]) ∧ Below w.heap.size w w' := by
  by_cases h : i < 0 ∨ 7 < i
  · have hv : bitV a i = 0 := by rw [bitV, if_neg (by omega)]
    rw [hv]
    clear hv
    rcases h with h | h
    · go_enter Try.func25, Try.ntmps25
      go_wp2
      exact bodyPost_ret (v := .agg #[.int .u8 0, .bool s]) (by simp [results, Try.results25, go_sem]) rfl ⟨rfl, (by repeat' (first | exact Below.refl _ _ | (refine Below.setCell ?_ (by first | (simp; done) | (simp; omega) | omega) _) | (refine Below.drew ?_) | (refine Below.drewN ?_ _) | (refine Below.alloc ?_ (by first | (simp; done) | (simp; omega) | omega) _)))⟩
    · have h0 : ¬ i < 0 := by omega
      go_enter Try.func25, Try.ntmps25
      go_wp2
      exact bodyPost_ret (v := .agg #[.int .u8 0, .bool s]) (by simp [results, Try.results25, go_sem]) rfl ⟨rfl, (by repeat' (first | exact Below.refl _ _ | (refine Below.setCell ?_ (by first | (simp; done) | (simp; omega) | omega) _) | (refine Below.drew ?_) | (refine Below.drewN ?_ _) | (refine Below.alloc ?_ (by first | (simp; done) | (simp; omega) | omega) _)))⟩
  · have h0 : 0 ≤ i := by omega
    have h7 : i ≤ 7 := by omega
    have hd : (decide (i < 0) || decide (7 < i)) = false := by simp; omega
    have hv := rb_bitV a i h0 h7
    have Hv := Lib.hid hv
    clear hv h
    go_enter Try.func25, Try.ntmps25
    have hb : 0 ≤ bitV a i ∧ bitV a i < 256 := by rw [bitV]; split <;> omega
    obtain ⟨b0, b1⟩ := hb
    have hw : IntKind.u8.wrap (bitV a i) = bitV a i := by rw [IntKind.wrap_u8', Int.emod_eq_of_lt b0 b1]
    go_wp2_with fail
    go_region_held3 (fun w' => w'.cell? ⟨w.heap.size, 0, none⟩ = some (.int .u8 a) ∧ w'.cell? ⟨w.heap.size, 1, none⟩ = some (.bool s)) (go_keep)
      ((go_at_call 30; refine (rb_ct a i _ h0 h7 a0 a1).mono ?_; rintro e w' ⟨rfl, rfl⟩; rw [Hv.out]))
    go_wp2
    exact bodyPost_ret (v := .agg #[.int .u8 (bitV a i), .bool s]) (by simp [results, Try.results25, go_sem]) rfl ⟨rfl, (by repeat' (first | exact Below.refl _ _ | (refine Below.setCell ?_ (by first | (simp; done) | (simp; omega) | omega) _) | (refine Below.drew ?_) | (refine Below.drewN ?_ _) | (refine Below.alloc ?_ (by first | (simp; done) | (simp; omega) | omega) _)))⟩

/-! ### the laws' helpers -/
/-- What 'Few' hands back. -/
def FewP (l : List (Int × Bool)) (w : World) (e : Ending) (w' : World) : Prop := ∃ v, e = .returned v ∧ Rd w v (l.take 40) ∧ w = w'
set_option maxHeartbeats 400000 in
theorem few_ct (sv : Value) (l : List (Int × Bool)) (w : World) (hr : Rd w sv l) :
    Calls Try.prog 10 #[sv] w (FewP l w) := by
  have Hr := Lib.hid hr
  obtain ⟨a, cap, rfl, hcap, hn, hr⟩ := hr
  unfold maxLen at hn
  by_cases h : 40 < l.length
  · rcases hr with rfl | ⟨b, off, rfl, hb, hc⟩
    · simp at h
    have hfin : Rd w (.slice (some ⟨b, off, none⟩) 40 cap) (l.take 40) := by
      refine ⟨some ⟨b, off, none⟩, cap, by rw [List.length_take, Nat.min_eq_left (by omega)], by rw [List.length_take]; omega, by unfold maxLen; omega, .inr ⟨b, off, rfl, hb, fun k hk => ?_⟩⟩
      rw [List.length_take] at hk
      have e : nth (l.take 40) k = nth l k := by
        unfold nth
        rw [List.getD_eq_getElem?_getD, List.getD_eq_getElem?_getD, List.getElem?_take, if_pos (by omega)]
      rw [e]
      exact hc k (by omega)
    have Hfin := Lib.hid hfin
    clear hfin hc Hr hb
    go_enter Try.func10, Try.ntmps10
    go_wp2
    go_ret
    exact ⟨_, rfl, Hfin.out, rfl⟩
  · have e : l.take 40 = l := List.take_of_length_le (by omega)
    have E := Lib.hid e
    clear e hr
    go_enter Try.func10, Try.ntmps10
    go_wp2
    go_ret
    exact ⟨_, rfl, by rw [E.out]; exact Hr.out, rfl⟩
set_option maxHeartbeats 1000000 in
theorem awake_ct (w : World) :
    Calls Try.prog 19 #[] w fun e w' => e = .returned (.bool true) ∧ Below w.heap.size w w' := by
  go_enter Try.func19, Try.ntmps19
  go_wp2_with fail
  refine (low_ct _ _).mono ?_
  rintro e w1 ⟨rfl, h1⟩
  go_wp2_with fail
  refine (sec_ct _ _).mono ?_
  rintro e w2 ⟨rfl, h2⟩
  go_wp2_with fail
  refine (word_ct 1 2 _ _ _ (by omega) (by omega) (by omega) (by omega)).mono ?_
  rintro e w3 ⟨rfl, h3⟩
  go_wp2_with fail
  refine (sec_ct _ _).mono ?_
  rintro e w4 ⟨rfl, h4⟩
  go_wp2_with fail
  refine (low_ct _ _).mono ?_
  rintro e w5 ⟨rfl, h5⟩
  go_wp2_with fail
  refine (and_ct _ _ _ _ _).mono ?_
  rintro e w6 ⟨rfl, h6⟩
  have e0 : bits .and .u8 0 255 = 0 := by decide
  rw [e0]
  clear e0
  go_wp2_with fail
  refine (sec_ct _ _).mono ?_
  rintro e w7 ⟨rfl, h7⟩
  go_wp2_with fail
  refine (sec_ct _ _).mono ?_
  rintro e w8 ⟨rfl, h8⟩
  go_wp2_with fail
  refine (alike_ct _ _ _ _ _).mono ?_
  rintro e w9 ⟨rfl, h9⟩
  rw [show alikeB 1 true 2 true = true from rfl]
  go_wp2_with fail
  refine (low_ct _ _).mono ?_
  rintro e w10 ⟨rfl, h10⟩
  go_wp2_with fail
  refine (low_ct _ _).mono ?_
  rintro e w11 ⟨rfl, h11⟩
  go_wp2_with fail
  refine (alike_ct _ _ _ _ _).mono ?_
  rintro e w12 ⟨rfl, h12⟩
  rw [show alikeB 1 false 2 false = false from rfl]
  go_wp2
  go_ret
  exact ⟨rfl, (((((((((((h1.next h2).next h3).next h4).next h5).next h6).next h7).next h8).next h9).next h10).next h11).next h12)⟩
end Go.Proofs.Ytmpacpiopjahnaa
