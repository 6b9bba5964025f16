/-
  The document's smallest answers for flags: without bits 4 and 5; is a bit one of some; bits put, or not; a byte's number with a sign; bits of both. Over this seat's translation; bytes are from 0 to 255.
-/
import Derived.Test.YtckfjiacnjjopaaAcl
namespace Go.Proofs.Ytckfjiacnjjopaa
open Go.RowKit
set_option linter.unusedSimpArgs false
set_option linter.unusedVariables false
set_option maxRecDepth 20000

set_option maxHeartbeats 400000 in
theorem rclean_ct (n : Int) (w : World) (n0 : 0 ≤ n) (n1 : n < 256) :
    Calls Try.prog 41 #[.int .u8 n] w fun e w' => e = .returned (.int .u8 (clr n)) ∧ Below w.heap.size w w' := by
  unfold clr
  go_enter Try.func41, Try.ntmps41
  go_wp2
  go_ret
  exact ⟨rfl, Below.refl _ _⟩
set_option maxHeartbeats 400000 in
theorem rsigned_ct (v : Int) (w : World) (v0 : 0 ≤ v) (v1 : v < 256) :
    Calls Try.prog 51 #[.int .u8 v] w fun e w' => e = .returned (.int .i64 (sgn v)) ∧ Below w.heap.size w w' := by
  unfold sgn
  by_cases h : v < 128
  · rw [if_pos h]
    go_enter Try.func51, Try.ntmps51
    go_wp2
    go_ret
    exact ⟨rfl, Below.refl _ _⟩
  · rw [if_neg h]
    go_enter Try.func51, Try.ntmps51
    go_wp2
    go_ret
    exact ⟨rfl, Below.refl _ _⟩
/-- A round's bit, of a number's bit. -/
theorem rb_bit (n k : Nat) : rb (n : Int) k = if n.testBit k then 1 else 0 := by
  unfold rb hv
  rw [Nat.testBit_eq_decide_div_mod_eq]
  have : ((n : Int) / 2 ^ k % 2) = ((n / 2 ^ k % 2 : Nat) : Int) := by simp
  rw [this]
  rcases Nat.mod_two_eq_zero_or_one (n / 2 ^ k) with h | h <;> simp [h]
set_option maxHeartbeats 1000000 in
theorem rhas_ct (n b : Int) (w : World) (n0 : 0 ≤ n) (n1 : n < 256) (b0 : 0 ≤ b) (b1 : b < 256) :
    Calls Try.prog 43 #[.int .u8 n, .int .u8 b] w fun e w' => e = .returned (.bool (anyN n.toNat b.toNat 8)) ∧ Below w.heap.size w w' := by
  obtain ⟨x, rfl⟩ := Int.eq_ofNat_of_zero_le n0
  obtain ⟨y, rfl⟩ := Int.eq_ofNat_of_zero_le b0
  have hx : ∀ k, rb (x : Int) k = if x.testBit k then 1 else 0 := rb_bit x
  have hy : ∀ k, rb (y : Int) k = if y.testBit k then 1 else 0 := rb_bit y
  have hyes : ∀ k, k < 8 → x.testBit k = true → y.testBit k = true → anyN x y 8 = true := fun k hk h1 h2 => by
    cases h : anyN x y 8
    · have := anyN_no x y 8 h k hk
      rw [h1, h2] at this
      cases this
    · rfl
  have hstep : ∀ k, anyN x y k = false → (x.testBit k && y.testBit k) = false → anyN x y (k + 1) = false := fun k h1 h2 => by rw [anyN, h1, h2]; rfl
  have HX := Lib.hid hx
  have HY := Lib.hid hy
  have HS := Lib.hid hstep
  have HJ := Lib.hid hyes
  clear hx hy hstep hyes
  rw [Int.toNat_natCast, Int.toNat_natCast]
  go_enter Try.func43, Try.ntmps43
  go_wp2
  go_loopw [4, 5] (fun _ i wr => ∃ k : Nat, k ≤ 8 ∧ i = .int .i64 k ∧ Hid (anyN x y k = false) ∧ w = wr) (fun _ i _ => 8 - (intOf i).toNat)
  case atStart => exact ⟨0, Nat.zero_le _, rfl, rfl, rfl⟩
  case round =>
    obtain ⟨k, hk, rfl, he, rfl⟩ := hrel
    by_cases hlt : k < 8
    · have hx := HX.out k
      have hy := HY.out k
      have hS := HS.out k he.out
      have hJ := HJ.out k hlt
      unfold rb hv at hx hy
      obtain ⟨s0, s1⟩ := shr_bounds (x : Int) k (by omega) n1
      obtain ⟨t0, t1⟩ := shr_bounds (y : Int) k (by omega) b1
      clear HX HY HS HJ he
      cases h1 : x.testBit k <;> cases h2 : y.testBit k
      all_goals
        rw [h1] at hx hS hJ
        rw [h2] at hy hS hJ
      · simp only [Bool.false_eq_true, if_false] at hx hy
        have Hn := Lib.hid (hS rfl)
        clear hS hJ h1 h2
        go_wp2
        go_roundw
        case rel => exact ⟨k + 1, by omega, by go_num, Hn, trivial⟩
        case measure => simp [intOf]; omega
      · simp only [Bool.false_eq_true, if_false, if_true] at hx hy
        have Hn := Lib.hid (hS rfl)
        clear hS hJ h1 h2
        go_wp2
        go_roundw
        case rel => exact ⟨k + 1, by omega, by go_num, Hn, trivial⟩
        case measure => simp [intOf]; omega
      · simp only [Bool.false_eq_true, if_false, if_true] at hx hy
        have Hn := Lib.hid (hS rfl)
        clear hS hJ h1 h2
        go_wp2
        go_roundw
        case rel => exact ⟨k + 1, by omega, by go_num, Hn, trivial⟩
        case measure => simp [intOf]; omega
      · simp only [if_true] at hx hy
        have Hn := Lib.hid (hJ rfl rfl)
        clear hS hJ h1 h2
        go_wp2
        go_ret
        exact ⟨by rw [Hn.out]; rfl, Below.refl _ _⟩
    · obtain rfl : k = 8 := by omega
      clear HX HY HS HJ
      go_wp2
      go_ret
      exact ⟨by rw [he.out]; rfl, Below.refl _ _⟩
set_option maxHeartbeats 1000000 in
theorem rput_ct (n b : Int) (z : Bool) (w : World) (n0 : 0 ≤ n) (n1 : n < 256) (b0 : 0 ≤ b) (b1 : b < 256) :
    Calls Try.prog 45 #[.int .u8 n, .int .u8 b, .bool z] w fun e w' => e = .returned (.int .u8 (pbV n b z)) ∧ Below w.heap.size w w' := by
  have hfin := acc_put z n b n0 n1 b0 b1
  obtain ⟨q0, q1⟩ := acc_bounds (fput z) n b 8
  have q1 : acc (fput z) n b 8 < 256 := q1
  have QC := Lib.hid (fun wr => rclean_ct (acc (fput z) n b 8) wr q0 q1)
  rw [← hfin]
  clear hfin
  have hp : ∀ k : Nat, (2 : Int) ^ k = pw k := fun k => rfl
  go_enter Try.func45, Try.ntmps45
  go_wp2_with fail
  go_loopw [7, 8, 9] (fun o i _ wr => ∃ k : Nat, k ≤ 8 ∧ i = .int .i64 k ∧ o = .int .i64 (acc (fput z) n b k) ∧ Below w.heap.size w wr) (fun _ i _ _ => 8 - (intOf i).toNat)
  case atStart => exact ⟨0, Nat.zero_le _, rfl, rfl, Below.refl _ _⟩
  case round =>
    obtain ⟨k, hk, rfl, rfl, hB⟩ := hrel
    by_cases hlt : k < 8
    · obtain ⟨s0, s1⟩ := shr_bounds n k n0 n1
      obtain ⟨t0, t1⟩ := shr_bounds b k b0 b1
      obtain ⟨c0, c1⟩ := acc_bounds (fput z) n b k
      obtain ⟨p0, p1⟩ := pw_bounds k hk
      have hp1 : pw k ≤ 128 := by have := pw_bounds (k + 1) (by omega); rw [pw_succ] at this; omega
      have hP := hp k
      rcases rb_two n k with hx | hx <;> rcases rb_two b k with hy | hy
      all_goals
        have ha : acc (fput z) n b (k + 1) = acc (fput z) n b k + if fput z (rb n k) (rb b k) then pw k else 0 := rfl
        rw [hx, hy] at ha
        unfold rb hv at hx hy
        rw [hP] at hx hy s0 s1 t0 t1
        cases z
      all_goals
        have Ha := Lib.hid ha
        clear ha
        generalize acc (fput _) n b k = A at *
        go_wp2
        go_roundw
        case rel => exact ⟨k + 1, by omega, by go_num, by rw [Ha.out]; simp [fput], hB⟩
        case measure => simp [intOf]; omega
    · obtain rfl : k = 8 := by omega
      go_wp2_with (first | (go_at_call 41; (with_reducible refine (QC.out _).mono ?_); rintro e w2 ⟨rfl, hb⟩; replace hB := hB.next hb; clear hb) | fail)
      go_ret
      exact ⟨rfl, hB⟩
set_option maxHeartbeats 2000000 in
theorem rand_ct (a : Int) (x : Bool) (m : Int) (y : Bool) (w : World) (a0 : 0 ≤ a) (a1 : a < 256) (m0 : 0 ≤ m) (m1 : m < 256) :
    Calls Try.prog 54 #[.agg #[.int .u8 a, .bool x], .agg #[.int .u8 m, .bool y]] w fun e w' => e = .returned (.agg #[.int .u8 (bothV a m), .bool (x || y)]) ∧ Below w.heap.size w w' := by
  have hfin : acc fand a m 8 = bothV a m := acc_and a m a0 a1 m0 m1
  obtain ⟨q0, q1⟩ := acc_bounds fand a m 8
  have q1 : acc fand a m 8 < 256 := q1
  rw [← hfin]
  clear hfin
  have hp : ∀ k : Nat, (2 : Int) ^ k = pw k := fun k => rfl
  have HZB := Lib.hid alloc_by
  have H := Mem.start w
  have M1 : True := trivial
  have M2 : True := trivial
  have M3 : True := trivial
  go_enter Try.func54, Try.ntmps54
  go_wp2_with (first
    | (refine wpList_mboxA rfl _ _ rfl H _ rfl ?_; clear H; first | (clear M1; intro R1 w1 _ H) | (clear M2; intro R2 w1 _ H))
    | (refine wpList_mnew rfl _ rfl H _ HZB.out ?_; clear H; clear M3; intro R3 w1 _ H) | fail)
  go_loopw [5, 6] (fun o i wr => ∃ k : Nat, k ≤ 8 ∧ i = .int .i64 k ∧ o = .int .i64 (acc fand a m k) ∧ Mem w.heap.size [] w wr [(R3, #[.int .u8 0, .bool false]), (R2, #[.int .u8 m, .bool y]), (R1, #[.int .u8 a, .bool x])]) (fun _ i _ => 8 - (intOf i).toNat)
  case atStart => exact ⟨0, Nat.zero_le _, rfl, rfl, H⟩
  case round =>
    clear H
    obtain ⟨k, hk, rfl, rfl, H⟩ := hrel
    by_cases hlt : k < 8
    · obtain ⟨s0, s1⟩ := shr_bounds a k a0 a1
      obtain ⟨t0, t1⟩ := shr_bounds m k m0 m1
      obtain ⟨c0, c1⟩ := acc_bounds fand a m k
      obtain ⟨p0, p1⟩ := pw_bounds k hk
      have hp1 : pw k ≤ 128 := by have := pw_bounds (k + 1) (by omega); rw [pw_succ] at this; omega
      have hP := hp k
      rcases rb_two a k with hx | hx <;> rcases rb_two m k with hy | hy
      all_goals
        have ha : acc fand a m (k + 1) = acc fand a m k + if fand (rb a k) (rb m k) then pw k else 0 := rfl
        rw [hx, hy] at ha
        unfold rb hv at hx hy
        rw [hP] at hx hy s0 s1 t0 t1
        have Ha := Lib.hid ha
        clear ha
        generalize acc fand a m k = A at *
        have g1 := H.cell (i := 2) (j := 0) rfl rfl
        have g2 := H.cell (i := 1) (j := 0) rfl rfl
        have HH := Lib.hid H
        clear H
        go_wp2
        go_roundw
        case rel => exact ⟨k + 1, by omega, by go_num, by rw [Ha.out]; simp [fand], HH.out⟩
        case measure => simp [intOf]; omega
    · obtain rfl : k = 8 := by omega
      cases x
      all_goals
        go_wp2_with (first | go_skip | (refine wpList_mboxA rfl _ _ rfl H _ rfl ?_; clear H; intro _ w1 _ H) | (refine gate_load _ _ rfl ?_; first | (refine wpList_mloadA rfl _ _ rfl _ rfl 0 H _ rfl (by decide +kernel) (by kernel_rfl) ?_) | (refine wpList_mloadA rfl _ _ rfl _ rfl 1 H _ rfl (by decide +kernel) (by kernel_rfl) ?_) | (refine wpList_mloadA rfl _ _ rfl _ rfl 2 H _ rfl (by decide +kernel) (by kernel_rfl) ?_) | (refine wpList_mload1 rfl _ _ rfl _ _ rfl 0 H _ (.int _ _) rfl rfl (by decide +kernel) ?_) | (refine wpList_mload1 rfl _ _ rfl _ _ rfl 1 H _ (.int _ _) rfl rfl (by decide +kernel) ?_) | (refine wpList_mload1 rfl _ _ rfl _ _ rfl 2 H _ (.int _ _) rfl rfl (by decide +kernel) ?_) | (refine wpList_mload1 rfl _ _ rfl _ _ rfl 0 H _ (.bool _) rfl rfl (by decide +kernel) ?_) | (refine wpList_mload1 rfl _ _ rfl _ _ rfl 1 H _ (.bool _) rfl rfl (by decide +kernel) ?_) | (refine wpList_mload1 rfl _ _ rfl _ _ rfl 2 H _ (.bool _) rfl rfl (by decide +kernel) ?_) | (refine wpList_mload1 rfl _ _ rfl _ _ rfl 0 H _ (.pointer _) rfl rfl (by decide +kernel) ?_) | (refine wpList_mload1 rfl _ _ rfl _ _ rfl 1 H _ (.pointer _) rfl rfl (by decide +kernel) ?_) | (refine wpList_mload1 rfl _ _ rfl _ _ rfl 2 H _ (.pointer _) rfl rfl (by decide +kernel) ?_) | (refine wpList_mload1 rfl _ _ rfl _ _ rfl 0 H _ (.string _) rfl rfl (by decide +kernel) ?_) | (refine wpList_mload1 rfl _ _ rfl _ _ rfl 1 H _ (.string _) rfl rfl (by decide +kernel) ?_) | (refine wpList_mload1 rfl _ _ rfl _ _ rfl 2 H _ (.string _) rfl rfl (by decide +kernel) ?_) | (refine wpList_mload1 rfl _ _ rfl _ _ rfl 0 H _ (.slice _ _ _) rfl rfl (by decide +kernel) ?_) | (refine wpList_mload1 rfl _ _ rfl _ _ rfl 1 H _ (.slice _ _ _) rfl rfl (by decide +kernel) ?_) | (refine wpList_mload1 rfl _ _ rfl _ _ rfl 2 H _ (.slice _ _ _) rfl rfl (by decide +kernel) ?_)) | (refine gate_store _ _ _ rfl ?_; (first | (refine wpList_mstoreA rfl _ _ _ rfl rfl _ rfl 0 H _ _ rfl rfl (by kernel_rfl) (by kernel_rfl) (by kernel_rfl) ?_) | (refine wpList_mstoreA rfl _ _ _ rfl rfl _ rfl 1 H _ _ rfl rfl (by kernel_rfl) (by kernel_rfl) (by kernel_rfl) ?_) | (refine wpList_mstoreA rfl _ _ _ rfl rfl _ rfl 2 H _ _ rfl rfl (by kernel_rfl) (by kernel_rfl) (by kernel_rfl) ?_) | (refine wpList_mstore rfl _ _ _ rfl rfl _ _ rfl 0 H _ _ rfl (.int _ _) rfl (by kernel_rfl) (of_decide_eq_true (by kernel_rfl)) (by kernel_rfl) rfl ?_) | (refine wpList_mstore rfl _ _ _ rfl rfl _ _ rfl 1 H _ _ rfl (.int _ _) rfl (by kernel_rfl) (of_decide_eq_true (by kernel_rfl)) (by kernel_rfl) rfl ?_) | (refine wpList_mstore rfl _ _ _ rfl rfl _ _ rfl 2 H _ _ rfl (.int _ _) rfl (by kernel_rfl) (of_decide_eq_true (by kernel_rfl)) (by kernel_rfl) rfl ?_) | (refine wpList_mstore rfl _ _ _ rfl rfl _ _ rfl 0 H _ _ rfl (.bool _) rfl (by kernel_rfl) (of_decide_eq_true (by kernel_rfl)) (by kernel_rfl) rfl ?_) | (refine wpList_mstore rfl _ _ _ rfl rfl _ _ rfl 1 H _ _ rfl (.bool _) rfl (by kernel_rfl) (of_decide_eq_true (by kernel_rfl)) (by kernel_rfl) rfl ?_) | (refine wpList_mstore rfl _ _ _ rfl rfl _ _ rfl 2 H _ _ rfl (.bool _) rfl (by kernel_rfl) (of_decide_eq_true (by kernel_rfl)) (by kernel_rfl) rfl ?_) | (refine wpList_mstore rfl _ _ _ rfl rfl _ _ rfl 0 H _ _ rfl (.pointer _) rfl (by kernel_rfl) (of_decide_eq_true (by kernel_rfl)) (by kernel_rfl) rfl ?_) | (refine wpList_mstore rfl _ _ _ rfl rfl _ _ rfl 1 H _ _ rfl (.pointer _) rfl (by kernel_rfl) (of_decide_eq_true (by kernel_rfl)) (by kernel_rfl) rfl ?_) | (refine wpList_mstore rfl _ _ _ rfl rfl _ _ rfl 2 H _ _ rfl (.pointer _) rfl (by kernel_rfl) (of_decide_eq_true (by kernel_rfl)) (by kernel_rfl) rfl ?_) | (refine wpList_mstore rfl _ _ _ rfl rfl _ _ rfl 0 H _ _ rfl (.string _) rfl (by kernel_rfl) (of_decide_eq_true (by kernel_rfl)) (by kernel_rfl) rfl ?_) | (refine wpList_mstore rfl _ _ _ rfl rfl _ _ rfl 1 H _ _ rfl (.string _) rfl (by kernel_rfl) (of_decide_eq_true (by kernel_rfl)) (by kernel_rfl) rfl ?_) | (refine wpList_mstore rfl _ _ _ rfl rfl _ _ rfl 2 H _ _ rfl (.string _) rfl (by kernel_rfl) (of_decide_eq_true (by kernel_rfl)) (by kernel_rfl) rfl ?_) | (refine wpList_mstore rfl _ _ _ rfl rfl _ _ rfl 0 H _ _ rfl (.slice _ _ _) rfl (by kernel_rfl) (of_decide_eq_true (by kernel_rfl)) (by kernel_rfl) rfl ?_) | (refine wpList_mstore rfl _ _ _ rfl rfl _ _ rfl 1 H _ _ rfl (.slice _ _ _) rfl (by kernel_rfl) (of_decide_eq_true (by kernel_rfl)) (by kernel_rfl) rfl ?_) | (refine wpList_mstore rfl _ _ _ rfl rfl _ _ rfl 2 H _ _ rfl (.slice _ _ _) rfl (by kernel_rfl) (of_decide_eq_true (by kernel_rfl)) (by kernel_rfl) rfl ?_)); clear H; intro w1 H; simp only [List.set_cons_zero, List.set_cons_succ] at H) | fail)
        refine ret_mem1 rfl _ rfl 0 H _ rfl (by kernel_rfl) (by kernel_rfl) rfl ?_
        exact ⟨rfl, H.toBelow⟩
end Go.Proofs.Ytckfjiacnjjopaa
