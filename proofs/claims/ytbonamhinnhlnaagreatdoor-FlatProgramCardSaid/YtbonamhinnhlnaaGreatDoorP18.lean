/-
  Several texts in one: what is read and written by the functions on the way to the statements. Conditions stand in each theorem.
-/
import Derived.ProofKit
import Derived.Test.YtbonamhinnhlnaaGreatDoorP16
import Derived.Test.YtbonamhinnhlnaaGreatDoorP17
namespace Go.Proofs.YtbonamhinnhlnaaGreatDoor

theorem nat_high (x c lo n : Nat) (h : ∀ i, i < n → c.testBit i = decide (lo ≤ i)) (hx : x < 2 ^ n) : x &&& c = x / 2 ^ lo * 2 ^ lo := by
  apply Nat.eq_of_testBit_eq
  intro i
  rw [Nat.testBit_and, Nat.testBit_mul_two_pow, Nat.testBit_div_two_pow]
  by_cases hi : i < n
  · rw [h i hi]
    by_cases hl : lo ≤ i
    · simp [hl]
    · simp [hl]
  · have e : x.testBit i = false := Nat.testBit_lt_two_pow (Nat.lt_of_lt_of_le hx (Nat.pow_le_pow_right (by omega) (by omega)))
    rw [e]
    by_cases hl : lo ≤ i
    · simp [hl, e]
    · simp [hl]
theorem wrap16 {n : Int} (h0 : 0 ≤ n) (h1 : n < 65536) : IntKind.wrap .u16 n = n := by
  have hb : (2 : Int) ^ IntKind.u16.bits = 65536 := by decide
  simp only [IntKind.wrap, hb]
  rw [Int.emod_eq_of_lt h0 h1]
  simp [IntKind.signed]
theorem of16 {n : Int} (h0 : 0 ≤ n) (h1 : n < 65536) : (BitVec.ofInt 16 n).toNat = n.toNat := by
  rw [BitVec.toNat_ofInt]
  omega
theorem high16 (n : Int) (c : Int) (lo k : Nat) (m : Int) (hc : ∀ i, i < k → (BitVec.ofInt 16 c).toNat.testBit i = decide (lo ≤ i)) (hm : m = ((2 ^ lo : Nat) : Int)) (hk : k ≤ 16) (h0 : 0 ≤ n) (h1 : n < ((2 ^ k : Nat) : Int)) : bits .and .u16 n c = n / m * m := by
  have h2 : n < 65536 := by
    have : (2 : Nat) ^ k ≤ 2 ^ 16 := Nat.pow_le_pow_right (by omega) hk
    omega
  have key : (BitVec.ofInt 16 n &&& BitVec.ofInt 16 c).toNat = n.toNat / 2 ^ lo * 2 ^ lo := by
    rw [BitVec.toNat_and, of16 h0 h2]
    exact nat_high _ _ lo k hc (by omega)
  show IntKind.u16.wrap ((BitVec.ofInt 16 n &&& BitVec.ofInt 16 c).toNat : Nat) = _
  rw [key]
  subst hm
  have e : ((n.toNat / 2 ^ lo * 2 ^ lo : Nat) : Int) = n / ((2 ^ lo : Nat) : Int) * ((2 ^ lo : Nat) : Int) := by
    rw [Int.natCast_mul, Int.natCast_ediv, Int.toNat_of_nonneg h0]
  rw [e]
  have p : 0 < ((2 ^ lo : Nat) : Int) := by have := Nat.two_pow_pos lo; omega
  have q0 : 0 ≤ n / ((2 ^ lo : Nat) : Int) := Int.ediv_nonneg h0 (by omega)
  have q1 : n / ((2 ^ lo : Nat) : Int) * ((2 ^ lo : Nat) : Int) ≤ n := Int.ediv_mul_le _ (by omega)
  exact wrap16 (Int.mul_nonneg q0 (by omega)) (by omega)
theorem low16 (n : Int) (c : Int) (k : Nat) (m : Int) (hc : (BitVec.ofInt 16 c).toNat = 2 ^ k - 1) (hm : m = ((2 ^ k : Nat) : Int)) (h0 : 0 ≤ n) (h1 : n < 65536) : bits .and .u16 n c = n % m := by
  have key : (BitVec.ofInt 16 n &&& BitVec.ofInt 16 c).toNat = n.toNat % 2 ^ k := by
    rw [BitVec.toNat_and, of16 h0 h1, hc, Nat.and_two_pow_sub_one_eq_mod]
  show IntKind.u16.wrap ((BitVec.ofInt 16 n &&& BitVec.ofInt 16 c).toNat : Nat) = n % m
  rw [key]
  subst hm
  have e : ((n.toNat % 2 ^ k : Nat) : Int) = n % ((2 ^ k : Nat) : Int) := by rw [Int.natCast_emod, Int.toNat_of_nonneg h0]
  rw [e]
  have p : 0 < ((2 ^ k : Nat) : Int) := by have := Nat.two_pow_pos k; omega
  have q0 := Int.emod_nonneg n (show ((2 ^ k : Nat) : Int) ≠ 0 by omega)
  have q1 : n % ((2 ^ k : Nat) : Int) ≤ n := by rw [← e]; have := Nat.mod_le n.toNat (2 ^ k); omega
  exact wrap16 q0 (by omega)
end Go.Proofs.YtbonamhinnhlnaaGreatDoor
namespace Go.Proofs.YtbonamhinnhlnaaGreatDoor
open Go.RowKit
set_option linter.unusedSimpArgs false
set_option linter.unusedVariables false
set_option maxRecDepth 20000

set_option maxHeartbeats 2000000 in
theorem interrupt_ct (s : Wk) (F : Fiw s) : CM 135 s (doM .interrupt s) := by
  intro R T w hR
  have HZB := Lib.hid alloc_by
  have HZU := Lib.hid alloc_bus
  have H := Mem.begin hR
  clear hR
  go_enter Tryz.func135, Tryz.ntmps135
  go_wp2_with (first | (go_at_call 107; obtain ⟨T0, hT⟩ := H.get (i := 0) rfl; (with_reducible refine Calls.mono (jump_ct _ F _ _ _ hT) ?_); rintro e w2 ⟨rfl, hm⟩; replace H := H.call (i := 0) rfl hm; clear hm hT; simp only [List.set_cons_zero, List.set_cons_succ] at H) | (go_at_call 177; obtain ⟨T0, hT⟩ := H.get (i := 0) rfl; (with_reducible refine Calls.mono (set_ct _ _ _ (Fit.jump F) (by decide) (by decide) _ _ _ hT) ?_); rintro e w2 ⟨rfl, hm⟩; replace H := H.call (i := 0) rfl hm; clear hm hT; simp only [List.set_cons_zero, List.set_cons_succ] at H) | go_skip | fail)
  (try simp only [IntKind.wrap_u16, IntKind.wrap_u8] at H)
  all_goals (first | refine fall rfl rfl ?_ | refine fallr rfl rfl ?_)
  all_goals (refine ⟨rfl, ?_⟩; first | exact H.only (i := 0) rfl)

set_option maxHeartbeats 2000000 in
theorem pullone_p (s : Wk) (F : Fiw s) (hn : s.nm.toList = [80, 76, 80]) : CM 137 s ({ s with p := clr s.v, ps := pullS s.vb }) := by
  intro R T w hR
  have en : (s.nm.toList == [80, 76, 80]) = true := by simp [hn]
  have FF := F
  obtain ⟨⟨a0, a1, x0, x1, y0, y1, s0, s1, p0, p1, q0, q1, cp, cq, pc0, pc1, op0, op1, ad0, ad1, d0, d1⟩, v0, v1⟩ := F
  have F := FF
  clear cp cq FF
  have HZB := Lib.hid alloc_by
  have HZU := Lib.hid alloc_bus
  have H := Mem.begin hR
  clear hR
  go_enter Tryz.func137, Tryz.ntmps137
  go_wp2_with (first | (go_at_call 175; (with_reducible refine (apull_ct _ _ _ v0 v1).mono ?_); rintro e w2 ⟨rfl, hB⟩; replace H := H.next hB; clear hB) | go_skip | (refine gate_load _ _ rfl ?_; first | (refine wpList_mload rfl 23 _ rfl _ _ rfl 0 H _ #[.int .u8 _, .bool _] rfl (by decide +kernel) (by kernel_rfl) (part2 rfl rfl) ?_) | (refine wpList_mload1 rfl _ _ rfl _ _ rfl 0 H _ (.string _) rfl rfl (by decide +kernel) ?_)) | (refine gate_store _ _ _ rfl ?_; (first | (refine wpList_mstore rfl 25 _ _ rfl rfl _ _ rfl 0 H _ _ rfl (.agg #[.int .u8 _, .int .u8 _]) rfl (by kernel_rfl) (of_decide_eq_true (by kernel_rfl)) (by kernel_rfl) (by first | with_reducible exact st_F _ _ _) ?_)); clear H; intro w1 H; simp only [List.set_cons_zero, List.set_cons_succ] at H) | fail)
  (try simp only [IntKind.wrap_u16, IntKind.wrap_u8] at H)
  all_goals (first | refine fall rfl rfl ?_ | refine fallr rfl rfl ?_)
  all_goals (refine ⟨rfl, ?_⟩; first | exact H.only (i := 0) rfl)

set_option maxHeartbeats 2000000 in
theorem pullone_a (s : Wk) (F : Fiw s) (hn : s.nm.toList ≠ [80, 76, 80]) : CM 137 s (loadA s s.v s.vb) := by
  intro R T w hR
  have en : (s.nm.toList == [80, 76, 80]) = false := by simp [hn]
  have FF := F
  obtain ⟨⟨a0, a1, x0, x1, y0, y1, s0, s1, p0, p1, q0, q1, cp, cq, pc0, pc1, op0, op1, ad0, ad1, d0, d1⟩, v0, v1⟩ := F
  have F := FF
  clear cp cq FF
  have HZB := Lib.hid alloc_by
  have HZU := Lib.hid alloc_bus
  have H := Mem.begin hR
  clear hR
  go_enter Tryz.func137, Tryz.ntmps137
  go_wp2_with (first | go_skip | (refine gate_load _ _ rfl ?_; first | (refine wpList_mload1 rfl _ _ rfl _ _ rfl 0 H _ (.string _) rfl rfl (by decide +kernel) ?_)) | fail)
  (try simp only [Act.put, List.setIfInBounds_toArray, List.set_cons_succ, List.set_cons_zero])
  (refine wp_region_tails_below 9 (by kernel_rfl) (by kernel_rfl) ?_); (simp only [List.take_succ_cons, List.take_zero, List.drop_succ_cons, List.drop_zero]); (repeat (first | (go_big_quiet_want; refine gate_qload _ _ rfl ?_; (first | (refine quiet_mload 23 _ rfl _ _ rfl 0 H _ #[.int .u8 _, .bool _] rfl (by decide +kernel) (by kernel_rfl) (part2 rfl rfl) ?_)); simp only [Act.put, List.setIfInBounds_toArray, List.set_cons_succ, List.set_cons_zero]; go_big_quiet_on) | go_big_quiet_step (fail))); (refine wpQuiet_nil ?_); intro _ hw'; obtain ⟨⟨dq, osq⟩, hw''⟩ := hw'; (subst hw''); replace H := H.next (below_regrown _ dq osq)
  go_wp2_with (first | (go_at_call 178; obtain ⟨T0, hT⟩ := H.get (i := 0) rfl; (with_reducible refine Calls.mono (loadA_ct _ _ _ F v0 v1 _ _ _ hT) ?_); rintro e w2 ⟨rfl, hm⟩; replace H := H.call (i := 0) rfl hm; clear hm hT; simp only [List.set_cons_zero, List.set_cons_succ] at H) | go_skip | fail)
  (try simp only [IntKind.wrap_u16, IntKind.wrap_u8] at H)
  all_goals (first | refine fall rfl rfl ?_ | refine fallr rfl rfl ?_)
  all_goals (refine ⟨rfl, ?_⟩; first | exact H.only (i := 0) rfl)

theorem pullone_ct (s : Wk) (F : Fiw s) : CM 137 s (doM .pullOne s) := by
  have e : nmEq s.nm (S3 80 76 80) = (s.nm.toList == [80, 76, 80]) := by unfold nmEq; rw [← ByteArray.toList_eq]
  show CM _ s (if nmEq s.nm (S3 80 76 80) = true then _ else _)
  by_cases h : s.nm.toList = [80, 76, 80]
  · rw [e, show (s.nm.toList == [80, 76, 80]) = true by simp [h]]
    exact pullone_p s F h
  · rw [e, show (s.nm.toList == [80, 76, 80]) = false by simp [h]]
    exact pullone_a s F h
set_option maxHeartbeats 4000000 in
theorem asked_ct (s : Wk) (n : Nat) (X : List Nat) (W w : World) (l : List (Nat × Array Value)) (H : Mem n X W w l) (R i : Nat) (hi : l[i]? = some (R, wkC s)) : Calls Tryz.prog 119 #[.pointer (some ⟨R, 0, none⟩)] w fun e w' => e = .returned (.int .u8 (brF s.nm)) ∧ Below w.heap.size w w' := by
  obtain ⟨T, hT⟩ := H.get hi
  clear H
  have H := Mem.begin hT
  have B := Below.refl w.heap.size w
  clear hT
  go_enter Tryz.func119, Tryz.ntmps119
  go_wp2_with (first | go_skip | (refine gate_load _ _ rfl ?_; first | (refine wpList_mload1 rfl _ _ rfl _ _ rfl 0 H _ (.string _) rfl rfl (by decide +kernel) ?_)) | fail)
  all_goals (go_ret; refine ⟨?_, B⟩; simp_all [brF, nmEq, ByteArray.toList_eq]; done)
set_option maxHeartbeats 4000000 in
theorem wanted_ct (s : Wk) (n : Nat) (X : List Nat) (W w : World) (l : List (Nat × Array Value)) (H : Mem n X W w l) (R i : Nat) (hi : l[i]? = some (R, wkC s)) : Calls Tryz.prog 120 #[.pointer (some ⟨R, 0, none⟩)] w fun e w' => e = .returned (.int .u8 (brW s.nm)) ∧ Below w.heap.size w w' := by
  obtain ⟨T, hT⟩ := H.get hi
  clear H
  have H := Mem.begin hT
  have B := Below.refl w.heap.size w
  clear hT
  go_enter Tryz.func120, Tryz.ntmps120
  go_wp2_with (first | go_skip | (refine gate_load _ _ rfl ?_; first | (refine wpList_mload1 rfl _ _ rfl _ _ rfl 0 H _ (.string _) rfl rfl (by decide +kernel) ?_)) | fail)
  all_goals (go_ret; refine ⟨?_, B⟩; simp_all [brW, nmEq, ByteArray.toList_eq]; done)
theorem brF_le (n : ByteArray) : 0 ≤ brF n ∧ brF n < 256 := by
  unfold brF
  split
  · decide
  · split
    · decide
    · split <;> decide
end Go.Proofs.YtbonamhinnhlnaaGreatDoor
