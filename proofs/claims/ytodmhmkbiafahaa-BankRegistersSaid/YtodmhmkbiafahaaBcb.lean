/-
  Package bank's chrOfFour. Over this seat's translation; octets are from 0 to 255.
-/
import Derived.Test.YtodmhmkbiafahaaBca
import Derived.Test.YtodmhmkbiafahaaSwp
import Derived.LoopN
namespace Go.Proofs.Ytodmhmkbiafahaa
open Go.RowKit
set_option linter.unusedSimpArgs false
set_option linter.unusedVariables false

set_option maxHeartbeats 4000000 in
theorem cfour_ct (m : Mp) (w : World) (s0 : 0 ≤ m.se ∧ m.se < 256) (r0 : 0 ≤ m.r0 ∧ m.r0 < 256) (r1 : 0 ≤ m.r1 ∧ m.r1 < 256) (r2 : 0 ≤ m.r2 ∧ m.r2 < 256) (r3 : 0 ≤ m.r3 ∧ m.r3 < 256) (r4 : 0 ≤ m.r4 ∧ m.r4 < 256) (r5 : 0 ≤ m.r5 ∧ m.r5 < 256) : Calls Try.prog 30 #[mpV m] w fun e w' => e = .returned (.agg (b8C (cFour m))) ∧ Below w.heap.size w w' := by
  have HZ := Lib.hid alloc_b8
  have h128 : bits .and .u8 m.se 128 = m.se / 128 * 128 := byte_all (p := fun x => bits .and .u8 x 128 = x / 128 * 128) (by decide +kernel) m.se s0.1 s0.2
  have n0 : bits .andNot .i64 m.r0 1 = m.r0 / 2 * 2 := byte_all (p := fun x => bits .andNot .i64 x 1 = x / 2 * 2) (by decide +kernel) m.r0 r0.1 r0.2
  have n1 : bits .or .i64 m.r0 1 = m.r0 / 2 * 2 + 1 := byte_all (p := fun x => bits .or .i64 x 1 = x / 2 * 2 + 1) (by decide +kernel) m.r0 r0.1 r0.2
  have n2 : bits .andNot .i64 m.r1 1 = m.r1 / 2 * 2 := byte_all (p := fun x => bits .andNot .i64 x 1 = x / 2 * 2) (by decide +kernel) m.r1 r1.1 r1.2
  have n3 : bits .or .i64 m.r1 1 = m.r1 / 2 * 2 + 1 := byte_all (p := fun x => bits .or .i64 x 1 = x / 2 * 2 + 1) (by decide +kernel) m.r1 r1.1 r1.2
  have hs : m.se / 128 = 1 ∨ m.se / 128 = 0 := by omega
  unfold mpV cFour
  obtain ⟨A0, h0⟩ : ∃ z, m.r0 / 2 * 2 = z := ⟨_, rfl⟩
  obtain ⟨A1, h1⟩ : ∃ z, m.r0 / 2 * 2 + 1 = z := ⟨_, rfl⟩
  obtain ⟨A2, h2⟩ : ∃ z, m.r1 / 2 * 2 = z := ⟨_, rfl⟩
  obtain ⟨A3, h3⟩ : ∃ z, m.r1 / 2 * 2 + 1 = z := ⟨_, rfl⟩
  rw [h1, h3, h0, h2]
  rw [h0] at n0
  rw [h1] at n1
  rw [h2] at n2
  rw [h3] at n3
  clear s0 h0 h1 h2 h3
  obtain ⟨p0, q0⟩ := r0
  obtain ⟨p1, q1⟩ := r1
  obtain ⟨p2, q2⟩ := r2
  obtain ⟨p3, q3⟩ := r3
  obtain ⟨p4, q4⟩ := r4
  obtain ⟨p5, q5⟩ := r5
  have H := Mem.start w
  rcases hs with hs | hs
  · rw [hs] at h128 ⊢
    clear hs
    rw [if_pos rfl]
    go_enter Try.func30, Try.ntmps30
    go_wp2_with (first
      | go_skip | (refine wpList_mboxA rfl _ _ rfl H _ rfl ?_; clear H; intro _ w1 _ H) | (refine gate_load _ _ rfl ?_; first | (refine wpList_mloadA rfl _ _ rfl _ rfl 0 H _ rfl (by decide +kernel) (by kernel_rfl) ?_) | (refine wpList_mloadA rfl _ _ rfl _ rfl 1 H _ rfl (by decide +kernel) (by kernel_rfl) ?_) | (refine wpList_mloadA rfl _ _ rfl _ rfl 2 H _ rfl (by decide +kernel) (by kernel_rfl) ?_) | (refine wpList_mload1 rfl _ _ rfl _ _ rfl 0 H _ (.int _ _) rfl rfl (by decide +kernel) ?_) | (refine wpList_mload1 rfl _ _ rfl _ _ rfl 1 H _ (.int _ _) rfl rfl (by decide +kernel) ?_) | (refine wpList_mload1 rfl _ _ rfl _ _ rfl 2 H _ (.int _ _) rfl rfl (by decide +kernel) ?_) | (refine wpList_mload1 rfl _ _ rfl _ _ rfl 0 H _ (.bool _) rfl rfl (by decide +kernel) ?_) | (refine wpList_mload1 rfl _ _ rfl _ _ rfl 1 H _ (.bool _) rfl rfl (by decide +kernel) ?_) | (refine wpList_mload1 rfl _ _ rfl _ _ rfl 2 H _ (.bool _) rfl rfl (by decide +kernel) ?_) | (refine wpList_mload1 rfl _ _ rfl _ _ rfl 0 H _ (.pointer _) rfl rfl (by decide +kernel) ?_) | (refine wpList_mload1 rfl _ _ rfl _ _ rfl 1 H _ (.pointer _) rfl rfl (by decide +kernel) ?_) | (refine wpList_mload1 rfl _ _ rfl _ _ rfl 2 H _ (.pointer _) rfl rfl (by decide +kernel) ?_) | (refine wpList_mload1 rfl _ _ rfl _ _ rfl 0 H _ (.string _) rfl rfl (by decide +kernel) ?_) | (refine wpList_mload1 rfl _ _ rfl _ _ rfl 1 H _ (.string _) rfl rfl (by decide +kernel) ?_) | (refine wpList_mload1 rfl _ _ rfl _ _ rfl 2 H _ (.string _) rfl rfl (by decide +kernel) ?_) | (refine wpList_mload1 rfl _ _ rfl _ _ rfl 0 H _ (.slice _ _ _) rfl rfl (by decide +kernel) ?_) | (refine wpList_mload1 rfl _ _ rfl _ _ rfl 1 H _ (.slice _ _ _) rfl rfl (by decide +kernel) ?_) | (refine wpList_mload1 rfl _ _ rfl _ _ rfl 2 H _ (.slice _ _ _) rfl rfl (by decide +kernel) ?_)) | (refine gate_store _ _ _ rfl ?_; (first | (refine wpList_mstoreA rfl _ _ _ rfl rfl _ rfl 0 H _ _ rfl rfl (by kernel_rfl) (by kernel_rfl) (by kernel_rfl) ?_) | (refine wpList_mstoreA rfl _ _ _ rfl rfl _ rfl 1 H _ _ rfl rfl (by kernel_rfl) (by kernel_rfl) (by kernel_rfl) ?_) | (refine wpList_mstoreA rfl _ _ _ rfl rfl _ rfl 2 H _ _ rfl rfl (by kernel_rfl) (by kernel_rfl) (by kernel_rfl) ?_) | (refine wpList_mstore rfl _ _ _ rfl rfl _ _ rfl 0 H _ _ rfl (.int _ _) rfl (by kernel_rfl) (of_decide_eq_true (by kernel_rfl)) (by kernel_rfl) rfl ?_) | (refine wpList_mstore rfl _ _ _ rfl rfl _ _ rfl 1 H _ _ rfl (.int _ _) rfl (by kernel_rfl) (of_decide_eq_true (by kernel_rfl)) (by kernel_rfl) rfl ?_) | (refine wpList_mstore rfl _ _ _ rfl rfl _ _ rfl 2 H _ _ rfl (.int _ _) rfl (by kernel_rfl) (of_decide_eq_true (by kernel_rfl)) (by kernel_rfl) rfl ?_) | (refine wpList_mstore rfl _ _ _ rfl rfl _ _ rfl 0 H _ _ rfl (.bool _) rfl (by kernel_rfl) (of_decide_eq_true (by kernel_rfl)) (by kernel_rfl) rfl ?_) | (refine wpList_mstore rfl _ _ _ rfl rfl _ _ rfl 1 H _ _ rfl (.bool _) rfl (by kernel_rfl) (of_decide_eq_true (by kernel_rfl)) (by kernel_rfl) rfl ?_) | (refine wpList_mstore rfl _ _ _ rfl rfl _ _ rfl 2 H _ _ rfl (.bool _) rfl (by kernel_rfl) (of_decide_eq_true (by kernel_rfl)) (by kernel_rfl) rfl ?_) | (refine wpList_mstore rfl _ _ _ rfl rfl _ _ rfl 0 H _ _ rfl (.pointer _) rfl (by kernel_rfl) (of_decide_eq_true (by kernel_rfl)) (by kernel_rfl) rfl ?_) | (refine wpList_mstore rfl _ _ _ rfl rfl _ _ rfl 1 H _ _ rfl (.pointer _) rfl (by kernel_rfl) (of_decide_eq_true (by kernel_rfl)) (by kernel_rfl) rfl ?_) | (refine wpList_mstore rfl _ _ _ rfl rfl _ _ rfl 2 H _ _ rfl (.pointer _) rfl (by kernel_rfl) (of_decide_eq_true (by kernel_rfl)) (by kernel_rfl) rfl ?_) | (refine wpList_mstore rfl _ _ _ rfl rfl _ _ rfl 0 H _ _ rfl (.string _) rfl (by kernel_rfl) (of_decide_eq_true (by kernel_rfl)) (by kernel_rfl) rfl ?_) | (refine wpList_mstore rfl _ _ _ rfl rfl _ _ rfl 1 H _ _ rfl (.string _) rfl (by kernel_rfl) (of_decide_eq_true (by kernel_rfl)) (by kernel_rfl) rfl ?_) | (refine wpList_mstore rfl _ _ _ rfl rfl _ _ rfl 2 H _ _ rfl (.string _) rfl (by kernel_rfl) (of_decide_eq_true (by kernel_rfl)) (by kernel_rfl) rfl ?_) | (refine wpList_mstore rfl _ _ _ rfl rfl _ _ rfl 0 H _ _ rfl (.slice _ _ _) rfl (by kernel_rfl) (of_decide_eq_true (by kernel_rfl)) (by kernel_rfl) rfl ?_) | (refine wpList_mstore rfl _ _ _ rfl rfl _ _ rfl 1 H _ _ rfl (.slice _ _ _) rfl (by kernel_rfl) (of_decide_eq_true (by kernel_rfl)) (by kernel_rfl) rfl ?_) | (refine wpList_mstore rfl _ _ _ rfl rfl _ _ rfl 2 H _ _ rfl (.slice _ _ _) rfl (by kernel_rfl) (of_decide_eq_true (by kernel_rfl)) (by kernel_rfl) rfl ?_)); clear H; intro w1 H; simp only [List.set_cons_zero, List.set_cons_succ, b8_all] at H)
      | (refine wpList_mnew rfl _ rfl H _ HZ.out ?_; clear H; intro R2 w1 _ H))
    (try simp only [Act.put, List.setIfInBounds_toArray, List.set_cons_succ, List.set_cons_zero])
    (refine wp_region_quiet_below (by kernel_rfl) (by kernel_rfl) ?_); (repeat (first | (go_big_quiet_want; refine gate_qload _ _ rfl ?_; (first | (refine quiet_mloadA _ _ rfl _ rfl 0 H _ rfl (by decide +kernel) (by kernel_rfl) ?_) | (refine quiet_mloadA _ _ rfl _ rfl 1 H _ rfl (by decide +kernel) (by kernel_rfl) ?_) | (refine quiet_mloadA _ _ rfl _ rfl 2 H _ rfl (by decide +kernel) (by kernel_rfl) ?_) | (refine quiet_mload1 _ _ rfl _ _ rfl 0 H _ (.int _ _) rfl rfl (by decide +kernel) ?_) | (refine quiet_mload1 _ _ rfl _ _ rfl 1 H _ (.int _ _) rfl rfl (by decide +kernel) ?_) | (refine quiet_mload1 _ _ rfl _ _ rfl 2 H _ (.int _ _) rfl rfl (by decide +kernel) ?_) | (refine quiet_mload1 _ _ rfl _ _ rfl 0 H _ (.bool _) rfl rfl (by decide +kernel) ?_) | (refine quiet_mload1 _ _ rfl _ _ rfl 1 H _ (.bool _) rfl rfl (by decide +kernel) ?_) | (refine quiet_mload1 _ _ rfl _ _ rfl 2 H _ (.bool _) rfl rfl (by decide +kernel) ?_) | (refine quiet_mload1 _ _ rfl _ _ rfl 0 H _ (.pointer _) rfl rfl (by decide +kernel) ?_) | (refine quiet_mload1 _ _ rfl _ _ rfl 1 H _ (.pointer _) rfl rfl (by decide +kernel) ?_) | (refine quiet_mload1 _ _ rfl _ _ rfl 2 H _ (.pointer _) rfl rfl (by decide +kernel) ?_) | (refine quiet_mload1 _ _ rfl _ _ rfl 0 H _ (.string _) rfl rfl (by decide +kernel) ?_) | (refine quiet_mload1 _ _ rfl _ _ rfl 1 H _ (.string _) rfl rfl (by decide +kernel) ?_) | (refine quiet_mload1 _ _ rfl _ _ rfl 2 H _ (.string _) rfl rfl (by decide +kernel) ?_) | (refine quiet_mload1 _ _ rfl _ _ rfl 0 H _ (.slice _ _ _) rfl rfl (by decide +kernel) ?_) | (refine quiet_mload1 _ _ rfl _ _ rfl 1 H _ (.slice _ _ _) rfl rfl (by decide +kernel) ?_) | (refine quiet_mload1 _ _ rfl _ _ rfl 2 H _ (.slice _ _ _) rfl rfl (by decide +kernel) ?_)); simp only [Act.put, List.setIfInBounds_toArray, List.set_cons_succ, List.set_cons_zero]; go_big_quiet_on) | go_big_quiet_step (fail))); (refine wpQuiet_nil ?_); intro _ hw'; obtain ⟨⟨dq, osq⟩, hw''⟩ := hw'; (subst hw''); have hq := below_regrown w1 dq osq; replace H := H.next hq; generalize Go.Sort.grow (redrawn w1 dq) osq = wq at *
    go_wp2_with (first
      | go_skip | (refine wpList_mboxA rfl _ _ rfl H _ rfl ?_; clear H; intro _ w1 _ H) | (refine gate_load _ _ rfl ?_; first | (refine wpList_mloadA rfl _ _ rfl _ rfl 0 H _ rfl (by decide +kernel) (by kernel_rfl) ?_) | (refine wpList_mloadA rfl _ _ rfl _ rfl 1 H _ rfl (by decide +kernel) (by kernel_rfl) ?_) | (refine wpList_mloadA rfl _ _ rfl _ rfl 2 H _ rfl (by decide +kernel) (by kernel_rfl) ?_) | (refine wpList_mload1 rfl _ _ rfl _ _ rfl 0 H _ (.int _ _) rfl rfl (by decide +kernel) ?_) | (refine wpList_mload1 rfl _ _ rfl _ _ rfl 1 H _ (.int _ _) rfl rfl (by decide +kernel) ?_) | (refine wpList_mload1 rfl _ _ rfl _ _ rfl 2 H _ (.int _ _) rfl rfl (by decide +kernel) ?_) | (refine wpList_mload1 rfl _ _ rfl _ _ rfl 0 H _ (.bool _) rfl rfl (by decide +kernel) ?_) | (refine wpList_mload1 rfl _ _ rfl _ _ rfl 1 H _ (.bool _) rfl rfl (by decide +kernel) ?_) | (refine wpList_mload1 rfl _ _ rfl _ _ rfl 2 H _ (.bool _) rfl rfl (by decide +kernel) ?_) | (refine wpList_mload1 rfl _ _ rfl _ _ rfl 0 H _ (.pointer _) rfl rfl (by decide +kernel) ?_) | (refine wpList_mload1 rfl _ _ rfl _ _ rfl 1 H _ (.pointer _) rfl rfl (by decide +kernel) ?_) | (refine wpList_mload1 rfl _ _ rfl _ _ rfl 2 H _ (.pointer _) rfl rfl (by decide +kernel) ?_) | (refine wpList_mload1 rfl _ _ rfl _ _ rfl 0 H _ (.string _) rfl rfl (by decide +kernel) ?_) | (refine wpList_mload1 rfl _ _ rfl _ _ rfl 1 H _ (.string _) rfl rfl (by decide +kernel) ?_) | (refine wpList_mload1 rfl _ _ rfl _ _ rfl 2 H _ (.string _) rfl rfl (by decide +kernel) ?_) | (refine wpList_mload1 rfl _ _ rfl _ _ rfl 0 H _ (.slice _ _ _) rfl rfl (by decide +kernel) ?_) | (refine wpList_mload1 rfl _ _ rfl _ _ rfl 1 H _ (.slice _ _ _) rfl rfl (by decide +kernel) ?_) | (refine wpList_mload1 rfl _ _ rfl _ _ rfl 2 H _ (.slice _ _ _) rfl rfl (by decide +kernel) ?_)) | (refine gate_store _ _ _ rfl ?_; (first | (refine wpList_mstoreA rfl _ _ _ rfl rfl _ rfl 0 H _ _ rfl rfl (by kernel_rfl) (by kernel_rfl) (by kernel_rfl) ?_) | (refine wpList_mstoreA rfl _ _ _ rfl rfl _ rfl 1 H _ _ rfl rfl (by kernel_rfl) (by kernel_rfl) (by kernel_rfl) ?_) | (refine wpList_mstoreA rfl _ _ _ rfl rfl _ rfl 2 H _ _ rfl rfl (by kernel_rfl) (by kernel_rfl) (by kernel_rfl) ?_) | (refine wpList_mstore rfl _ _ _ rfl rfl _ _ rfl 0 H _ _ rfl (.int _ _) rfl (by kernel_rfl) (of_decide_eq_true (by kernel_rfl)) (by kernel_rfl) rfl ?_) | (refine wpList_mstore rfl _ _ _ rfl rfl _ _ rfl 1 H _ _ rfl (.int _ _) rfl (by kernel_rfl) (of_decide_eq_true (by kernel_rfl)) (by kernel_rfl) rfl ?_) | (refine wpList_mstore rfl _ _ _ rfl rfl _ _ rfl 2 H _ _ rfl (.int _ _) rfl (by kernel_rfl) (of_decide_eq_true (by kernel_rfl)) (by kernel_rfl) rfl ?_) | (refine wpList_mstore rfl _ _ _ rfl rfl _ _ rfl 0 H _ _ rfl (.bool _) rfl (by kernel_rfl) (of_decide_eq_true (by kernel_rfl)) (by kernel_rfl) rfl ?_) | (refine wpList_mstore rfl _ _ _ rfl rfl _ _ rfl 1 H _ _ rfl (.bool _) rfl (by kernel_rfl) (of_decide_eq_true (by kernel_rfl)) (by kernel_rfl) rfl ?_) | (refine wpList_mstore rfl _ _ _ rfl rfl _ _ rfl 2 H _ _ rfl (.bool _) rfl (by kernel_rfl) (of_decide_eq_true (by kernel_rfl)) (by kernel_rfl) rfl ?_) | (refine wpList_mstore rfl _ _ _ rfl rfl _ _ rfl 0 H _ _ rfl (.pointer _) rfl (by kernel_rfl) (of_decide_eq_true (by kernel_rfl)) (by kernel_rfl) rfl ?_) | (refine wpList_mstore rfl _ _ _ rfl rfl _ _ rfl 1 H _ _ rfl (.pointer _) rfl (by kernel_rfl) (of_decide_eq_true (by kernel_rfl)) (by kernel_rfl) rfl ?_) | (refine wpList_mstore rfl _ _ _ rfl rfl _ _ rfl 2 H _ _ rfl (.pointer _) rfl (by kernel_rfl) (of_decide_eq_true (by kernel_rfl)) (by kernel_rfl) rfl ?_) | (refine wpList_mstore rfl _ _ _ rfl rfl _ _ rfl 0 H _ _ rfl (.string _) rfl (by kernel_rfl) (of_decide_eq_true (by kernel_rfl)) (by kernel_rfl) rfl ?_) | (refine wpList_mstore rfl _ _ _ rfl rfl _ _ rfl 1 H _ _ rfl (.string _) rfl (by kernel_rfl) (of_decide_eq_true (by kernel_rfl)) (by kernel_rfl) rfl ?_) | (refine wpList_mstore rfl _ _ _ rfl rfl _ _ rfl 2 H _ _ rfl (.string _) rfl (by kernel_rfl) (of_decide_eq_true (by kernel_rfl)) (by kernel_rfl) rfl ?_) | (refine wpList_mstore rfl _ _ _ rfl rfl _ _ rfl 0 H _ _ rfl (.slice _ _ _) rfl (by kernel_rfl) (of_decide_eq_true (by kernel_rfl)) (by kernel_rfl) rfl ?_) | (refine wpList_mstore rfl _ _ _ rfl rfl _ _ rfl 1 H _ _ rfl (.slice _ _ _) rfl (by kernel_rfl) (of_decide_eq_true (by kernel_rfl)) (by kernel_rfl) rfl ?_) | (refine wpList_mstore rfl _ _ _ rfl rfl _ _ rfl 2 H _ _ rfl (.slice _ _ _) rfl (by kernel_rfl) (of_decide_eq_true (by kernel_rfl)) (by kernel_rfl) rfl ?_)); clear H; intro w1 H; simp only [List.set_cons_zero, List.set_cons_succ, b8_all] at H)
      | (refine wpList_mnew rfl _ rfl H _ HZ.out ?_; clear H; intro R1 w1 _ H))
    clear h128 n0 n1 n2 n3 HZ p0 q0 p1 q1 p2 q2 p3 q3 p4 q4 p5 q5
    obtain ⟨LL, H⟩ : ∃ LL, Mem w.heap.size [] w w1 ((R1, b8C ⟨A0, A1, A2, A3, m.r2, m.r3, m.r4, m.r5⟩) :: (R2, b8C ⟨0, 0, 0, 0, 0, 0, 0, 0⟩) :: LL) := ⟨_, H⟩
    refine wp_loop_rounds (4 + 1) ?_
    rw [rounds_succ]
    go_wp2_with fail
    refine wp_region_settled (by kernel_rfl) (by kernel_rfl) (fun q => [(some 48, .int .i64 0), (some 49, .int .i64 0), (some 50, .int .i64 4), (some 51, .int .i64 0), (some 52, .int .i64 4), (some 53, .pointer (some ⟨R1, 4, none⟩)), (some 54, .int .i64 m.r2), (some 55, .int .i64 0), (some 56, .pointer (some ⟨R1, 0, none⟩)), (some 57, .int .i64 A0), (some 58, .pointer (some ⟨R1, 0, none⟩)), (none, undef), (some 59, .pointer (some ⟨R1, 4, none⟩)), (none, undef)]) (WSw w.heap.size [] w 11 13 6 9 ((R1, b8C ⟨A0, A1, A2, A3, m.r2, m.r3, m.r4, m.r5⟩) :: (R2, b8C ⟨0, 0, 0, 0, 0, 0, 0, 0⟩) :: LL) ((R1, b8C ⟨m.r2, A1, A2, A3, m.r2, m.r3, m.r4, m.r5⟩) :: (R2, b8C ⟨0, 0, 0, 0, 0, 0, 0, 0⟩) :: LL) ((R1, b8C ⟨m.r2, A1, A2, A3, A0, m.r3, m.r4, m.r5⟩) :: (R2, b8C ⟨0, 0, 0, 0, 0, 0, 0, 0⟩) :: LL)) 62 (by rfl) (fun _ => by rfl) (fun _ => by rfl) (fun _ => by rfl) (WSw.start H) ⟨?p0, ?p1, ?p2, ?p3, ?p4, ?p5, ?p6, ?p7, ?p8, ?p9, ?p10, ?p11, ?p12, ?p13, trivial⟩ ?_
    case p0 =>
      intro D q a' w' hk he hl hW
      have f6 : a'.tmps.getD 6 undef = .int .i64 0 := (hl 6).trans ((lookS_absent _ 0 (by simp)).trans rfl)
      exact wp_val (.int .i64 0) (by simp only [execOp, Act.eval]; rw [f6]; kernel_rfl) ⟨q, fun _ => rfl, ⟨_, rfl, rfl⟩, hW.keep (by decide) (by decide)⟩
    case p1 =>
      intro D q a' w' hk he hl hW
      have f6 : a'.tmps.getD 6 undef = .int .i64 0 := (hl 6).trans ((lookS_absent _ 0 (by simp)).trans rfl)
      exact wp_val (.int .i64 0) (by simp only [execOp, Act.eval]; rw [f6]; kernel_rfl) ⟨q, fun _ => rfl, ⟨_, rfl, rfl⟩, hW.keep (by decide) (by decide)⟩
    case p2 =>
      intro D q a' w' hk he hl hW
      have e1 := (hl 49).trans (lookS_at rfl (he ⟨1, .data⟩ (by simp) rfl) rfl)
      exact wp_val (.int .i64 4) (by simp only [execOp, Act.eval]; rw [e1]; kernel_rfl) ⟨q, fun _ => rfl, ⟨_, rfl, rfl⟩, hW.keep (by decide) (by decide)⟩
    case p3 =>
      intro D q a' w' hk he hl hW
      have f6 : a'.tmps.getD 6 undef = .int .i64 0 := (hl 6).trans ((lookS_absent _ 0 (by simp)).trans rfl)
      exact wp_val (.int .i64 0) (by simp only [execOp, Act.eval]; rw [f6]; kernel_rfl) ⟨q, fun _ => rfl, ⟨_, rfl, rfl⟩, hW.keep (by decide) (by decide)⟩
    case p4 =>
      intro D q a' w' hk he hl hW
      have e3 := (hl 51).trans (lookS_at rfl (he ⟨3, .data⟩ (by simp) rfl) rfl)
      exact wp_val (.int .i64 4) (by simp only [execOp, Act.eval]; rw [e3]; kernel_rfl) ⟨q, fun _ => rfl, ⟨_, rfl, rfl⟩, hW.keep (by decide) (by decide)⟩
    case p5 =>
      intro D q a' w' hk he hl hW
      have e4 := (hl 52).trans (lookS_at rfl (he ⟨4, .data⟩ (by simp) rfl) rfl)
      have f5 : a'.tmps.getD 5 undef = .pointer (some ⟨R1, 0, none⟩) := (hl 5).trans ((lookS_absent _ 0 (by simp)).trans rfl)
      exact wp_val (.pointer (some ⟨R1, 4, none⟩)) (by simp only [execOp, Act.eval]; rw [f5, e4]; kernel_rfl) ⟨q, fun _ => rfl, ⟨_, rfl, rfl⟩, hW.keep (by decide) (by decide)⟩
    case p6 =>
      intro D q a' w' hk he hl hW
      have e5 := (hl 53).trans (lookS_at rfl (he ⟨5, .data⟩ (by simp) rfl) rfl)
      exact wp_sload1 _ _ rfl _ _ e5 0 (hW.base (.inl hk)) _ (.int .i64 m.r2) rfl rfl (by decide +kernel) ⟨q, fun _ => rfl, ⟨_, rfl, rfl⟩, hW.keep (by decide) (by decide)⟩
    case p7 =>
      intro D q a' w' hk he hl hW
      have f6 : a'.tmps.getD 6 undef = .int .i64 0 := (hl 6).trans ((lookS_absent _ 0 (by simp)).trans rfl)
      exact wp_val (.int .i64 0) (by simp only [execOp, Act.eval]; rw [f6]; kernel_rfl) ⟨q, fun _ => rfl, ⟨_, rfl, rfl⟩, hW.keep (by decide) (by decide)⟩
    case p8 =>
      intro D q a' w' hk he hl hW
      have e7 := (hl 55).trans (lookS_at rfl (he ⟨7, .data⟩ (by simp) rfl) rfl)
      have f5 : a'.tmps.getD 5 undef = .pointer (some ⟨R1, 0, none⟩) := (hl 5).trans ((lookS_absent _ 0 (by simp)).trans rfl)
      exact wp_val (.pointer (some ⟨R1, 0, none⟩)) (by simp only [execOp, Act.eval]; rw [f5, e7]; kernel_rfl) ⟨q, fun _ => rfl, ⟨_, rfl, rfl⟩, hW.keep (by decide) (by decide)⟩
    case p9 =>
      intro D q a' w' hk he hl hW
      have e8 := (hl 56).trans (lookS_at rfl (he ⟨8, .data⟩ (by simp) rfl) rfl)
      exact wp_sload1 _ _ rfl _ _ e8 0 (hW.base (.inr hk)) _ (.int .i64 A0) rfl rfl (by decide +kernel) ⟨q, fun _ => rfl, ⟨_, rfl, rfl⟩, hW.keep (by decide) (by decide)⟩
    case p10 =>
      intro D q a' w' hk he hl hW
      have e0 := (hl 48).trans (lookS_at rfl (he ⟨0, .data⟩ (by simp) rfl) rfl)
      have f5 : a'.tmps.getD 5 undef = .pointer (some ⟨R1, 0, none⟩) := (hl 5).trans ((lookS_absent _ 0 (by simp)).trans rfl)
      exact wp_val (.pointer (some ⟨R1, 0, none⟩)) (by simp only [execOp, Act.eval]; rw [f5, e0]; kernel_rfl) ⟨q, fun _ => rfl, ⟨_, rfl, rfl⟩, hW.keep (by decide) (by decide)⟩
    case p11 =>
      intro D q a' w' hk he hl hW
      have e10 := (hl 58).trans (lookS_at rfl (he ⟨10, .data⟩ (by simp) rfl) rfl)
      have e6 := (hl 54).trans (lookS_at rfl (he ⟨6, .data⟩ (by simp) rfl) rfl)
      exact wp_sstore1 _ _ _ rfl rfl _ _ e10 0 (hW.before hk) _ _ rfl _ e6 (by kernel_rfl) (of_decide_eq_true (by kernel_rfl)) (by kernel_rfl) rfl fun w1 hM => ⟨q, fun _ => rfl, ⟨undef, rfl, rfl⟩, hW.first hk (he ⟨6, .data⟩ (by simp) rfl) (he ⟨9, .phase⟩ (by simp) rfl) (by decide) hM⟩
    case p12 =>
      intro D q a' w' hk he hl hW
      have e2 := (hl 50).trans (lookS_at rfl (he ⟨2, .data⟩ (by simp) rfl) rfl)
      have f5 : a'.tmps.getD 5 undef = .pointer (some ⟨R1, 0, none⟩) := (hl 5).trans ((lookS_absent _ 0 (by simp)).trans rfl)
      exact wp_val (.pointer (some ⟨R1, 4, none⟩)) (by simp only [execOp, Act.eval]; rw [f5, e2]; kernel_rfl) ⟨q, fun _ => rfl, ⟨_, rfl, rfl⟩, hW.keep (by decide) (by decide)⟩
    case p13 =>
      intro D q a' w' hk he hl hW
      have e12 := (hl 59).trans (lookS_at rfl (he ⟨12, .data⟩ (by simp) rfl) rfl)
      have e9 := (hl 57).trans (lookS_at rfl (he ⟨9, .data⟩ (by simp) rfl) rfl)
      exact wp_sstore1 _ _ _ rfl rfl _ _ e12 0 (hW.between (he ⟨11, .chain⟩ (by simp) rfl) hk) _ _ rfl _ e9 (by kernel_rfl) (of_decide_eq_true (by kernel_rfl)) (by kernel_rfl) rfl fun w1 hM => ⟨q, fun _ => rfl, ⟨undef, rfl, rfl⟩, hW.second (he ⟨11, .chain⟩ (by simp) rfl) hM⟩
    intro D q' w' hD hW
    clear H
    have H := hW.done (hD 13 (by decide))
    clear hD hW
    simp only [putAll, List.foldl_cons, List.foldl_nil, Act.put, List.setIfInBounds_toArray, List.set_cons_succ, List.set_cons_zero]
    go_wp2_with fail
    rw [rounds_succ]
    go_wp2_with fail
    refine wp_region_settled (by kernel_rfl) (by kernel_rfl) (fun q => [(some 48, .int .i64 1), (some 49, .int .i64 1), (some 50, .int .i64 5), (some 51, .int .i64 1), (some 52, .int .i64 5), (some 53, .pointer (some ⟨R1, 5, none⟩)), (some 54, .int .i64 m.r3), (some 55, .int .i64 1), (some 56, .pointer (some ⟨R1, 1, none⟩)), (some 57, .int .i64 A1), (some 58, .pointer (some ⟨R1, 1, none⟩)), (none, undef), (some 59, .pointer (some ⟨R1, 5, none⟩)), (none, undef)]) (WSw w.heap.size [] w 11 13 6 9 ((R1, b8C ⟨m.r2, A1, A2, A3, A0, m.r3, m.r4, m.r5⟩) :: (R2, b8C ⟨0, 0, 0, 0, 0, 0, 0, 0⟩) :: LL) ((R1, b8C ⟨m.r2, m.r3, A2, A3, A0, m.r3, m.r4, m.r5⟩) :: (R2, b8C ⟨0, 0, 0, 0, 0, 0, 0, 0⟩) :: LL) ((R1, b8C ⟨m.r2, m.r3, A2, A3, A0, A1, m.r4, m.r5⟩) :: (R2, b8C ⟨0, 0, 0, 0, 0, 0, 0, 0⟩) :: LL)) 62 (by rfl) (fun _ => by rfl) (fun _ => by rfl) (fun _ => by rfl) (WSw.start H) ⟨?p0, ?p1, ?p2, ?p3, ?p4, ?p5, ?p6, ?p7, ?p8, ?p9, ?p10, ?p11, ?p12, ?p13, trivial⟩ ?_
    case p0 =>
      intro D q a' w' hk he hl hW
      have f6 : a'.tmps.getD 6 undef = .int .i64 1 := (hl 6).trans ((lookS_absent _ 0 (by simp)).trans rfl)
      exact wp_val (.int .i64 1) (by simp only [execOp, Act.eval]; rw [f6]; kernel_rfl) ⟨q, fun _ => rfl, ⟨_, rfl, rfl⟩, hW.keep (by decide) (by decide)⟩
    case p1 =>
      intro D q a' w' hk he hl hW
      have f6 : a'.tmps.getD 6 undef = .int .i64 1 := (hl 6).trans ((lookS_absent _ 0 (by simp)).trans rfl)
      exact wp_val (.int .i64 1) (by simp only [execOp, Act.eval]; rw [f6]; kernel_rfl) ⟨q, fun _ => rfl, ⟨_, rfl, rfl⟩, hW.keep (by decide) (by decide)⟩
    case p2 =>
      intro D q a' w' hk he hl hW
      have e1 := (hl 49).trans (lookS_at rfl (he ⟨1, .data⟩ (by simp) rfl) rfl)
      exact wp_val (.int .i64 5) (by simp only [execOp, Act.eval]; rw [e1]; kernel_rfl) ⟨q, fun _ => rfl, ⟨_, rfl, rfl⟩, hW.keep (by decide) (by decide)⟩
    case p3 =>
      intro D q a' w' hk he hl hW
      have f6 : a'.tmps.getD 6 undef = .int .i64 1 := (hl 6).trans ((lookS_absent _ 0 (by simp)).trans rfl)
      exact wp_val (.int .i64 1) (by simp only [execOp, Act.eval]; rw [f6]; kernel_rfl) ⟨q, fun _ => rfl, ⟨_, rfl, rfl⟩, hW.keep (by decide) (by decide)⟩
    case p4 =>
      intro D q a' w' hk he hl hW
      have e3 := (hl 51).trans (lookS_at rfl (he ⟨3, .data⟩ (by simp) rfl) rfl)
      exact wp_val (.int .i64 5) (by simp only [execOp, Act.eval]; rw [e3]; kernel_rfl) ⟨q, fun _ => rfl, ⟨_, rfl, rfl⟩, hW.keep (by decide) (by decide)⟩
    case p5 =>
      intro D q a' w' hk he hl hW
      have e4 := (hl 52).trans (lookS_at rfl (he ⟨4, .data⟩ (by simp) rfl) rfl)
      have f5 : a'.tmps.getD 5 undef = .pointer (some ⟨R1, 0, none⟩) := (hl 5).trans ((lookS_absent _ 0 (by simp)).trans rfl)
      exact wp_val (.pointer (some ⟨R1, 5, none⟩)) (by simp only [execOp, Act.eval]; rw [f5, e4]; kernel_rfl) ⟨q, fun _ => rfl, ⟨_, rfl, rfl⟩, hW.keep (by decide) (by decide)⟩
    case p6 =>
      intro D q a' w' hk he hl hW
      have e5 := (hl 53).trans (lookS_at rfl (he ⟨5, .data⟩ (by simp) rfl) rfl)
      exact wp_sload1 _ _ rfl _ _ e5 0 (hW.base (.inl hk)) _ (.int .i64 m.r3) rfl rfl (by decide +kernel) ⟨q, fun _ => rfl, ⟨_, rfl, rfl⟩, hW.keep (by decide) (by decide)⟩
    case p7 =>
      intro D q a' w' hk he hl hW
      have f6 : a'.tmps.getD 6 undef = .int .i64 1 := (hl 6).trans ((lookS_absent _ 0 (by simp)).trans rfl)
      exact wp_val (.int .i64 1) (by simp only [execOp, Act.eval]; rw [f6]; kernel_rfl) ⟨q, fun _ => rfl, ⟨_, rfl, rfl⟩, hW.keep (by decide) (by decide)⟩
    case p8 =>
      intro D q a' w' hk he hl hW
      have e7 := (hl 55).trans (lookS_at rfl (he ⟨7, .data⟩ (by simp) rfl) rfl)
      have f5 : a'.tmps.getD 5 undef = .pointer (some ⟨R1, 0, none⟩) := (hl 5).trans ((lookS_absent _ 0 (by simp)).trans rfl)
      exact wp_val (.pointer (some ⟨R1, 1, none⟩)) (by simp only [execOp, Act.eval]; rw [f5, e7]; kernel_rfl) ⟨q, fun _ => rfl, ⟨_, rfl, rfl⟩, hW.keep (by decide) (by decide)⟩
    case p9 =>
      intro D q a' w' hk he hl hW
      have e8 := (hl 56).trans (lookS_at rfl (he ⟨8, .data⟩ (by simp) rfl) rfl)
      exact wp_sload1 _ _ rfl _ _ e8 0 (hW.base (.inr hk)) _ (.int .i64 A1) rfl rfl (by decide +kernel) ⟨q, fun _ => rfl, ⟨_, rfl, rfl⟩, hW.keep (by decide) (by decide)⟩
    case p10 =>
      intro D q a' w' hk he hl hW
      have e0 := (hl 48).trans (lookS_at rfl (he ⟨0, .data⟩ (by simp) rfl) rfl)
      have f5 : a'.tmps.getD 5 undef = .pointer (some ⟨R1, 0, none⟩) := (hl 5).trans ((lookS_absent _ 0 (by simp)).trans rfl)
      exact wp_val (.pointer (some ⟨R1, 1, none⟩)) (by simp only [execOp, Act.eval]; rw [f5, e0]; kernel_rfl) ⟨q, fun _ => rfl, ⟨_, rfl, rfl⟩, hW.keep (by decide) (by decide)⟩
    case p11 =>
      intro D q a' w' hk he hl hW
      have e10 := (hl 58).trans (lookS_at rfl (he ⟨10, .data⟩ (by simp) rfl) rfl)
      have e6 := (hl 54).trans (lookS_at rfl (he ⟨6, .data⟩ (by simp) rfl) rfl)
      exact wp_sstore1 _ _ _ rfl rfl _ _ e10 0 (hW.before hk) _ _ rfl _ e6 (by kernel_rfl) (of_decide_eq_true (by kernel_rfl)) (by kernel_rfl) rfl fun w1 hM => ⟨q, fun _ => rfl, ⟨undef, rfl, rfl⟩, hW.first hk (he ⟨6, .data⟩ (by simp) rfl) (he ⟨9, .phase⟩ (by simp) rfl) (by decide) hM⟩
    case p12 =>
      intro D q a' w' hk he hl hW
      have e2 := (hl 50).trans (lookS_at rfl (he ⟨2, .data⟩ (by simp) rfl) rfl)
      have f5 : a'.tmps.getD 5 undef = .pointer (some ⟨R1, 0, none⟩) := (hl 5).trans ((lookS_absent _ 0 (by simp)).trans rfl)
      exact wp_val (.pointer (some ⟨R1, 5, none⟩)) (by simp only [execOp, Act.eval]; rw [f5, e2]; kernel_rfl) ⟨q, fun _ => rfl, ⟨_, rfl, rfl⟩, hW.keep (by decide) (by decide)⟩
    case p13 =>
      intro D q a' w' hk he hl hW
      have e12 := (hl 59).trans (lookS_at rfl (he ⟨12, .data⟩ (by simp) rfl) rfl)
      have e9 := (hl 57).trans (lookS_at rfl (he ⟨9, .data⟩ (by simp) rfl) rfl)
      exact wp_sstore1 _ _ _ rfl rfl _ _ e12 0 (hW.between (he ⟨11, .chain⟩ (by simp) rfl) hk) _ _ rfl _ e9 (by kernel_rfl) (of_decide_eq_true (by kernel_rfl)) (by kernel_rfl) rfl fun w1 hM => ⟨q, fun _ => rfl, ⟨undef, rfl, rfl⟩, hW.second (he ⟨11, .chain⟩ (by simp) rfl) hM⟩
    intro D q' w' hD hW
    clear H
    have H := hW.done (hD 13 (by decide))
    clear hD hW
    simp only [putAll, List.foldl_cons, List.foldl_nil, Act.put, List.setIfInBounds_toArray, List.set_cons_succ, List.set_cons_zero]
    go_wp2_with fail
    rw [rounds_succ]
    go_wp2_with fail
    refine wp_region_settled (by kernel_rfl) (by kernel_rfl) (fun q => [(some 48, .int .i64 2), (some 49, .int .i64 2), (some 50, .int .i64 6), (some 51, .int .i64 2), (some 52, .int .i64 6), (some 53, .pointer (some ⟨R1, 6, none⟩)), (some 54, .int .i64 m.r4), (some 55, .int .i64 2), (some 56, .pointer (some ⟨R1, 2, none⟩)), (some 57, .int .i64 A2), (some 58, .pointer (some ⟨R1, 2, none⟩)), (none, undef), (some 59, .pointer (some ⟨R1, 6, none⟩)), (none, undef)]) (WSw w.heap.size [] w 11 13 6 9 ((R1, b8C ⟨m.r2, m.r3, A2, A3, A0, A1, m.r4, m.r5⟩) :: (R2, b8C ⟨0, 0, 0, 0, 0, 0, 0, 0⟩) :: LL) ((R1, b8C ⟨m.r2, m.r3, m.r4, A3, A0, A1, m.r4, m.r5⟩) :: (R2, b8C ⟨0, 0, 0, 0, 0, 0, 0, 0⟩) :: LL) ((R1, b8C ⟨m.r2, m.r3, m.r4, A3, A0, A1, A2, m.r5⟩) :: (R2, b8C ⟨0, 0, 0, 0, 0, 0, 0, 0⟩) :: LL)) 62 (by rfl) (fun _ => by rfl) (fun _ => by rfl) (fun _ => by rfl) (WSw.start H) ⟨?p0, ?p1, ?p2, ?p3, ?p4, ?p5, ?p6, ?p7, ?p8, ?p9, ?p10, ?p11, ?p12, ?p13, trivial⟩ ?_
    case p0 =>
      intro D q a' w' hk he hl hW
      have f6 : a'.tmps.getD 6 undef = .int .i64 2 := (hl 6).trans ((lookS_absent _ 0 (by simp)).trans rfl)
      exact wp_val (.int .i64 2) (by simp only [execOp, Act.eval]; rw [f6]; kernel_rfl) ⟨q, fun _ => rfl, ⟨_, rfl, rfl⟩, hW.keep (by decide) (by decide)⟩
    case p1 =>
      intro D q a' w' hk he hl hW
      have f6 : a'.tmps.getD 6 undef = .int .i64 2 := (hl 6).trans ((lookS_absent _ 0 (by simp)).trans rfl)
      exact wp_val (.int .i64 2) (by simp only [execOp, Act.eval]; rw [f6]; kernel_rfl) ⟨q, fun _ => rfl, ⟨_, rfl, rfl⟩, hW.keep (by decide) (by decide)⟩
    case p2 =>
      intro D q a' w' hk he hl hW
      have e1 := (hl 49).trans (lookS_at rfl (he ⟨1, .data⟩ (by simp) rfl) rfl)
      exact wp_val (.int .i64 6) (by simp only [execOp, Act.eval]; rw [e1]; kernel_rfl) ⟨q, fun _ => rfl, ⟨_, rfl, rfl⟩, hW.keep (by decide) (by decide)⟩
    case p3 =>
      intro D q a' w' hk he hl hW
      have f6 : a'.tmps.getD 6 undef = .int .i64 2 := (hl 6).trans ((lookS_absent _ 0 (by simp)).trans rfl)
      exact wp_val (.int .i64 2) (by simp only [execOp, Act.eval]; rw [f6]; kernel_rfl) ⟨q, fun _ => rfl, ⟨_, rfl, rfl⟩, hW.keep (by decide) (by decide)⟩
    case p4 =>
      intro D q a' w' hk he hl hW
      have e3 := (hl 51).trans (lookS_at rfl (he ⟨3, .data⟩ (by simp) rfl) rfl)
      exact wp_val (.int .i64 6) (by simp only [execOp, Act.eval]; rw [e3]; kernel_rfl) ⟨q, fun _ => rfl, ⟨_, rfl, rfl⟩, hW.keep (by decide) (by decide)⟩
    case p5 =>
      intro D q a' w' hk he hl hW
      have e4 := (hl 52).trans (lookS_at rfl (he ⟨4, .data⟩ (by simp) rfl) rfl)
      have f5 : a'.tmps.getD 5 undef = .pointer (some ⟨R1, 0, none⟩) := (hl 5).trans ((lookS_absent _ 0 (by simp)).trans rfl)
      exact wp_val (.pointer (some ⟨R1, 6, none⟩)) (by simp only [execOp, Act.eval]; rw [f5, e4]; kernel_rfl) ⟨q, fun _ => rfl, ⟨_, rfl, rfl⟩, hW.keep (by decide) (by decide)⟩
    case p6 =>
      intro D q a' w' hk he hl hW
      have e5 := (hl 53).trans (lookS_at rfl (he ⟨5, .data⟩ (by simp) rfl) rfl)
      exact wp_sload1 _ _ rfl _ _ e5 0 (hW.base (.inl hk)) _ (.int .i64 m.r4) rfl rfl (by decide +kernel) ⟨q, fun _ => rfl, ⟨_, rfl, rfl⟩, hW.keep (by decide) (by decide)⟩
    case p7 =>
      intro D q a' w' hk he hl hW
      have f6 : a'.tmps.getD 6 undef = .int .i64 2 := (hl 6).trans ((lookS_absent _ 0 (by simp)).trans rfl)
      exact wp_val (.int .i64 2) (by simp only [execOp, Act.eval]; rw [f6]; kernel_rfl) ⟨q, fun _ => rfl, ⟨_, rfl, rfl⟩, hW.keep (by decide) (by decide)⟩
    case p8 =>
      intro D q a' w' hk he hl hW
      have e7 := (hl 55).trans (lookS_at rfl (he ⟨7, .data⟩ (by simp) rfl) rfl)
      have f5 : a'.tmps.getD 5 undef = .pointer (some ⟨R1, 0, none⟩) := (hl 5).trans ((lookS_absent _ 0 (by simp)).trans rfl)
      exact wp_val (.pointer (some ⟨R1, 2, none⟩)) (by simp only [execOp, Act.eval]; rw [f5, e7]; kernel_rfl) ⟨q, fun _ => rfl, ⟨_, rfl, rfl⟩, hW.keep (by decide) (by decide)⟩
    case p9 =>
      intro D q a' w' hk he hl hW
      have e8 := (hl 56).trans (lookS_at rfl (he ⟨8, .data⟩ (by simp) rfl) rfl)
      exact wp_sload1 _ _ rfl _ _ e8 0 (hW.base (.inr hk)) _ (.int .i64 A2) rfl rfl (by decide +kernel) ⟨q, fun _ => rfl, ⟨_, rfl, rfl⟩, hW.keep (by decide) (by decide)⟩
    case p10 =>
      intro D q a' w' hk he hl hW
      have e0 := (hl 48).trans (lookS_at rfl (he ⟨0, .data⟩ (by simp) rfl) rfl)
      have f5 : a'.tmps.getD 5 undef = .pointer (some ⟨R1, 0, none⟩) := (hl 5).trans ((lookS_absent _ 0 (by simp)).trans rfl)
      exact wp_val (.pointer (some ⟨R1, 2, none⟩)) (by simp only [execOp, Act.eval]; rw [f5, e0]; kernel_rfl) ⟨q, fun _ => rfl, ⟨_, rfl, rfl⟩, hW.keep (by decide) (by decide)⟩
    case p11 =>
      intro D q a' w' hk he hl hW
      have e10 := (hl 58).trans (lookS_at rfl (he ⟨10, .data⟩ (by simp) rfl) rfl)
      have e6 := (hl 54).trans (lookS_at rfl (he ⟨6, .data⟩ (by simp) rfl) rfl)
      exact wp_sstore1 _ _ _ rfl rfl _ _ e10 0 (hW.before hk) _ _ rfl _ e6 (by kernel_rfl) (of_decide_eq_true (by kernel_rfl)) (by kernel_rfl) rfl fun w1 hM => ⟨q, fun _ => rfl, ⟨undef, rfl, rfl⟩, hW.first hk (he ⟨6, .data⟩ (by simp) rfl) (he ⟨9, .phase⟩ (by simp) rfl) (by decide) hM⟩
    case p12 =>
      intro D q a' w' hk he hl hW
      have e2 := (hl 50).trans (lookS_at rfl (he ⟨2, .data⟩ (by simp) rfl) rfl)
      have f5 : a'.tmps.getD 5 undef = .pointer (some ⟨R1, 0, none⟩) := (hl 5).trans ((lookS_absent _ 0 (by simp)).trans rfl)
      exact wp_val (.pointer (some ⟨R1, 6, none⟩)) (by simp only [execOp, Act.eval]; rw [f5, e2]; kernel_rfl) ⟨q, fun _ => rfl, ⟨_, rfl, rfl⟩, hW.keep (by decide) (by decide)⟩
    case p13 =>
      intro D q a' w' hk he hl hW
      have e12 := (hl 59).trans (lookS_at rfl (he ⟨12, .data⟩ (by simp) rfl) rfl)
      have e9 := (hl 57).trans (lookS_at rfl (he ⟨9, .data⟩ (by simp) rfl) rfl)
      exact wp_sstore1 _ _ _ rfl rfl _ _ e12 0 (hW.between (he ⟨11, .chain⟩ (by simp) rfl) hk) _ _ rfl _ e9 (by kernel_rfl) (of_decide_eq_true (by kernel_rfl)) (by kernel_rfl) rfl fun w1 hM => ⟨q, fun _ => rfl, ⟨undef, rfl, rfl⟩, hW.second (he ⟨11, .chain⟩ (by simp) rfl) hM⟩
    intro D q' w' hD hW
    clear H
    have H := hW.done (hD 13 (by decide))
    clear hD hW
    simp only [putAll, List.foldl_cons, List.foldl_nil, Act.put, List.setIfInBounds_toArray, List.set_cons_succ, List.set_cons_zero]
    go_wp2_with fail
    rw [rounds_succ]
    go_wp2_with fail
    refine wp_region_settled (by kernel_rfl) (by kernel_rfl) (fun q => [(some 48, .int .i64 3), (some 49, .int .i64 3), (some 50, .int .i64 7), (some 51, .int .i64 3), (some 52, .int .i64 7), (some 53, .pointer (some ⟨R1, 7, none⟩)), (some 54, .int .i64 m.r5), (some 55, .int .i64 3), (some 56, .pointer (some ⟨R1, 3, none⟩)), (some 57, .int .i64 A3), (some 58, .pointer (some ⟨R1, 3, none⟩)), (none, undef), (some 59, .pointer (some ⟨R1, 7, none⟩)), (none, undef)]) (WSw w.heap.size [] w 11 13 6 9 ((R1, b8C ⟨m.r2, m.r3, m.r4, A3, A0, A1, A2, m.r5⟩) :: (R2, b8C ⟨0, 0, 0, 0, 0, 0, 0, 0⟩) :: LL) ((R1, b8C ⟨m.r2, m.r3, m.r4, m.r5, A0, A1, A2, m.r5⟩) :: (R2, b8C ⟨0, 0, 0, 0, 0, 0, 0, 0⟩) :: LL) ((R1, b8C ⟨m.r2, m.r3, m.r4, m.r5, A0, A1, A2, A3⟩) :: (R2, b8C ⟨0, 0, 0, 0, 0, 0, 0, 0⟩) :: LL)) 62 (by rfl) (fun _ => by rfl) (fun _ => by rfl) (fun _ => by rfl) (WSw.start H) ⟨?p0, ?p1, ?p2, ?p3, ?p4, ?p5, ?p6, ?p7, ?p8, ?p9, ?p10, ?p11, ?p12, ?p13, trivial⟩ ?_
    case p0 =>
      intro D q a' w' hk he hl hW
      have f6 : a'.tmps.getD 6 undef = .int .i64 3 := (hl 6).trans ((lookS_absent _ 0 (by simp)).trans rfl)
      exact wp_val (.int .i64 3) (by simp only [execOp, Act.eval]; rw [f6]; kernel_rfl) ⟨q, fun _ => rfl, ⟨_, rfl, rfl⟩, hW.keep (by decide) (by decide)⟩
    case p1 =>
      intro D q a' w' hk he hl hW
      have f6 : a'.tmps.getD 6 undef = .int .i64 3 := (hl 6).trans ((lookS_absent _ 0 (by simp)).trans rfl)
      exact wp_val (.int .i64 3) (by simp only [execOp, Act.eval]; rw [f6]; kernel_rfl) ⟨q, fun _ => rfl, ⟨_, rfl, rfl⟩, hW.keep (by decide) (by decide)⟩
    case p2 =>
      intro D q a' w' hk he hl hW
      have e1 := (hl 49).trans (lookS_at rfl (he ⟨1, .data⟩ (by simp) rfl) rfl)
      exact wp_val (.int .i64 7) (by simp only [execOp, Act.eval]; rw [e1]; kernel_rfl) ⟨q, fun _ => rfl, ⟨_, rfl, rfl⟩, hW.keep (by decide) (by decide)⟩
    case p3 =>
      intro D q a' w' hk he hl hW
      have f6 : a'.tmps.getD 6 undef = .int .i64 3 := (hl 6).trans ((lookS_absent _ 0 (by simp)).trans rfl)
      exact wp_val (.int .i64 3) (by simp only [execOp, Act.eval]; rw [f6]; kernel_rfl) ⟨q, fun _ => rfl, ⟨_, rfl, rfl⟩, hW.keep (by decide) (by decide)⟩
    case p4 =>
      intro D q a' w' hk he hl hW
      have e3 := (hl 51).trans (lookS_at rfl (he ⟨3, .data⟩ (by simp) rfl) rfl)
      exact wp_val (.int .i64 7) (by simp only [execOp, Act.eval]; rw [e3]; kernel_rfl) ⟨q, fun _ => rfl, ⟨_, rfl, rfl⟩, hW.keep (by decide) (by decide)⟩
    case p5 =>
      intro D q a' w' hk he hl hW
      have e4 := (hl 52).trans (lookS_at rfl (he ⟨4, .data⟩ (by simp) rfl) rfl)
      have f5 : a'.tmps.getD 5 undef = .pointer (some ⟨R1, 0, none⟩) := (hl 5).trans ((lookS_absent _ 0 (by simp)).trans rfl)
      exact wp_val (.pointer (some ⟨R1, 7, none⟩)) (by simp only [execOp, Act.eval]; rw [f5, e4]; kernel_rfl) ⟨q, fun _ => rfl, ⟨_, rfl, rfl⟩, hW.keep (by decide) (by decide)⟩
    case p6 =>
      intro D q a' w' hk he hl hW
      have e5 := (hl 53).trans (lookS_at rfl (he ⟨5, .data⟩ (by simp) rfl) rfl)
      exact wp_sload1 _ _ rfl _ _ e5 0 (hW.base (.inl hk)) _ (.int .i64 m.r5) rfl rfl (by decide +kernel) ⟨q, fun _ => rfl, ⟨_, rfl, rfl⟩, hW.keep (by decide) (by decide)⟩
    case p7 =>
      intro D q a' w' hk he hl hW
      have f6 : a'.tmps.getD 6 undef = .int .i64 3 := (hl 6).trans ((lookS_absent _ 0 (by simp)).trans rfl)
      exact wp_val (.int .i64 3) (by simp only [execOp, Act.eval]; rw [f6]; kernel_rfl) ⟨q, fun _ => rfl, ⟨_, rfl, rfl⟩, hW.keep (by decide) (by decide)⟩
    case p8 =>
      intro D q a' w' hk he hl hW
      have e7 := (hl 55).trans (lookS_at rfl (he ⟨7, .data⟩ (by simp) rfl) rfl)
      have f5 : a'.tmps.getD 5 undef = .pointer (some ⟨R1, 0, none⟩) := (hl 5).trans ((lookS_absent _ 0 (by simp)).trans rfl)
      exact wp_val (.pointer (some ⟨R1, 3, none⟩)) (by simp only [execOp, Act.eval]; rw [f5, e7]; kernel_rfl) ⟨q, fun _ => rfl, ⟨_, rfl, rfl⟩, hW.keep (by decide) (by decide)⟩
    case p9 =>
      intro D q a' w' hk he hl hW
      have e8 := (hl 56).trans (lookS_at rfl (he ⟨8, .data⟩ (by simp) rfl) rfl)
      exact wp_sload1 _ _ rfl _ _ e8 0 (hW.base (.inr hk)) _ (.int .i64 A3) rfl rfl (by decide +kernel) ⟨q, fun _ => rfl, ⟨_, rfl, rfl⟩, hW.keep (by decide) (by decide)⟩
    case p10 =>
      intro D q a' w' hk he hl hW
      have e0 := (hl 48).trans (lookS_at rfl (he ⟨0, .data⟩ (by simp) rfl) rfl)
      have f5 : a'.tmps.getD 5 undef = .pointer (some ⟨R1, 0, none⟩) := (hl 5).trans ((lookS_absent _ 0 (by simp)).trans rfl)
      exact wp_val (.pointer (some ⟨R1, 3, none⟩)) (by simp only [execOp, Act.eval]; rw [f5, e0]; kernel_rfl) ⟨q, fun _ => rfl, ⟨_, rfl, rfl⟩, hW.keep (by decide) (by decide)⟩
    case p11 =>
      intro D q a' w' hk he hl hW
      have e10 := (hl 58).trans (lookS_at rfl (he ⟨10, .data⟩ (by simp) rfl) rfl)
      have e6 := (hl 54).trans (lookS_at rfl (he ⟨6, .data⟩ (by simp) rfl) rfl)
      exact wp_sstore1 _ _ _ rfl rfl _ _ e10 0 (hW.before hk) _ _ rfl _ e6 (by kernel_rfl) (of_decide_eq_true (by kernel_rfl)) (by kernel_rfl) rfl fun w1 hM => ⟨q, fun _ => rfl, ⟨undef, rfl, rfl⟩, hW.first hk (he ⟨6, .data⟩ (by simp) rfl) (he ⟨9, .phase⟩ (by simp) rfl) (by decide) hM⟩
    case p12 =>
      intro D q a' w' hk he hl hW
      have e2 := (hl 50).trans (lookS_at rfl (he ⟨2, .data⟩ (by simp) rfl) rfl)
      have f5 : a'.tmps.getD 5 undef = .pointer (some ⟨R1, 0, none⟩) := (hl 5).trans ((lookS_absent _ 0 (by simp)).trans rfl)
      exact wp_val (.pointer (some ⟨R1, 7, none⟩)) (by simp only [execOp, Act.eval]; rw [f5, e2]; kernel_rfl) ⟨q, fun _ => rfl, ⟨_, rfl, rfl⟩, hW.keep (by decide) (by decide)⟩
    case p13 =>
      intro D q a' w' hk he hl hW
      have e12 := (hl 59).trans (lookS_at rfl (he ⟨12, .data⟩ (by simp) rfl) rfl)
      have e9 := (hl 57).trans (lookS_at rfl (he ⟨9, .data⟩ (by simp) rfl) rfl)
      exact wp_sstore1 _ _ _ rfl rfl _ _ e12 0 (hW.between (he ⟨11, .chain⟩ (by simp) rfl) hk) _ _ rfl _ e9 (by kernel_rfl) (of_decide_eq_true (by kernel_rfl)) (by kernel_rfl) rfl fun w1 hM => ⟨q, fun _ => rfl, ⟨undef, rfl, rfl⟩, hW.second (he ⟨11, .chain⟩ (by simp) rfl) hM⟩
    intro D q' w' hD hW
    clear H
    have H := hW.done (hD 13 (by decide))
    clear hD hW
    simp only [putAll, List.foldl_cons, List.foldl_nil, Act.put, List.setIfInBounds_toArray, List.set_cons_succ, List.set_cons_zero]
    go_wp2_with fail
    rw [rounds_succ]
    go_wp2_with (first | go_skip | (refine wpList_mboxA rfl _ _ rfl H _ rfl ?_; clear H; intro _ w1 _ H) | (refine gate_load _ _ rfl ?_; first | (refine wpList_mloadA rfl _ _ rfl _ rfl 0 H _ rfl (by decide +kernel) (by kernel_rfl) ?_) | (refine wpList_mloadA rfl _ _ rfl _ rfl 1 H _ rfl (by decide +kernel) (by kernel_rfl) ?_) | (refine wpList_mloadA rfl _ _ rfl _ rfl 2 H _ rfl (by decide +kernel) (by kernel_rfl) ?_) | (refine wpList_mload1 rfl _ _ rfl _ _ rfl 0 H _ (.int _ _) rfl rfl (by decide +kernel) ?_) | (refine wpList_mload1 rfl _ _ rfl _ _ rfl 1 H _ (.int _ _) rfl rfl (by decide +kernel) ?_) | (refine wpList_mload1 rfl _ _ rfl _ _ rfl 2 H _ (.int _ _) rfl rfl (by decide +kernel) ?_) | (refine wpList_mload1 rfl _ _ rfl _ _ rfl 0 H _ (.bool _) rfl rfl (by decide +kernel) ?_) | (refine wpList_mload1 rfl _ _ rfl _ _ rfl 1 H _ (.bool _) rfl rfl (by decide +kernel) ?_) | (refine wpList_mload1 rfl _ _ rfl _ _ rfl 2 H _ (.bool _) rfl rfl (by decide +kernel) ?_) | (refine wpList_mload1 rfl _ _ rfl _ _ rfl 0 H _ (.pointer _) rfl rfl (by decide +kernel) ?_) | (refine wpList_mload1 rfl _ _ rfl _ _ rfl 1 H _ (.pointer _) rfl rfl (by decide +kernel) ?_) | (refine wpList_mload1 rfl _ _ rfl _ _ rfl 2 H _ (.pointer _) rfl rfl (by decide +kernel) ?_) | (refine wpList_mload1 rfl _ _ rfl _ _ rfl 0 H _ (.string _) rfl rfl (by decide +kernel) ?_) | (refine wpList_mload1 rfl _ _ rfl _ _ rfl 1 H _ (.string _) rfl rfl (by decide +kernel) ?_) | (refine wpList_mload1 rfl _ _ rfl _ _ rfl 2 H _ (.string _) rfl rfl (by decide +kernel) ?_) | (refine wpList_mload1 rfl _ _ rfl _ _ rfl 0 H _ (.slice _ _ _) rfl rfl (by decide +kernel) ?_) | (refine wpList_mload1 rfl _ _ rfl _ _ rfl 1 H _ (.slice _ _ _) rfl rfl (by decide +kernel) ?_) | (refine wpList_mload1 rfl _ _ rfl _ _ rfl 2 H _ (.slice _ _ _) rfl rfl (by decide +kernel) ?_)) | (refine gate_store _ _ _ rfl ?_; (first | (refine wpList_mstoreA rfl _ _ _ rfl rfl _ rfl 0 H _ _ rfl rfl (by kernel_rfl) (by kernel_rfl) (by kernel_rfl) ?_) | (refine wpList_mstoreA rfl _ _ _ rfl rfl _ rfl 1 H _ _ rfl rfl (by kernel_rfl) (by kernel_rfl) (by kernel_rfl) ?_) | (refine wpList_mstoreA rfl _ _ _ rfl rfl _ rfl 2 H _ _ rfl rfl (by kernel_rfl) (by kernel_rfl) (by kernel_rfl) ?_) | (refine wpList_mstore rfl _ _ _ rfl rfl _ _ rfl 0 H _ _ rfl (.int _ _) rfl (by kernel_rfl) (of_decide_eq_true (by kernel_rfl)) (by kernel_rfl) rfl ?_) | (refine wpList_mstore rfl _ _ _ rfl rfl _ _ rfl 1 H _ _ rfl (.int _ _) rfl (by kernel_rfl) (of_decide_eq_true (by kernel_rfl)) (by kernel_rfl) rfl ?_) | (refine wpList_mstore rfl _ _ _ rfl rfl _ _ rfl 2 H _ _ rfl (.int _ _) rfl (by kernel_rfl) (of_decide_eq_true (by kernel_rfl)) (by kernel_rfl) rfl ?_) | (refine wpList_mstore rfl _ _ _ rfl rfl _ _ rfl 0 H _ _ rfl (.bool _) rfl (by kernel_rfl) (of_decide_eq_true (by kernel_rfl)) (by kernel_rfl) rfl ?_) | (refine wpList_mstore rfl _ _ _ rfl rfl _ _ rfl 1 H _ _ rfl (.bool _) rfl (by kernel_rfl) (of_decide_eq_true (by kernel_rfl)) (by kernel_rfl) rfl ?_) | (refine wpList_mstore rfl _ _ _ rfl rfl _ _ rfl 2 H _ _ rfl (.bool _) rfl (by kernel_rfl) (of_decide_eq_true (by kernel_rfl)) (by kernel_rfl) rfl ?_) | (refine wpList_mstore rfl _ _ _ rfl rfl _ _ rfl 0 H _ _ rfl (.pointer _) rfl (by kernel_rfl) (of_decide_eq_true (by kernel_rfl)) (by kernel_rfl) rfl ?_) | (refine wpList_mstore rfl _ _ _ rfl rfl _ _ rfl 1 H _ _ rfl (.pointer _) rfl (by kernel_rfl) (of_decide_eq_true (by kernel_rfl)) (by kernel_rfl) rfl ?_) | (refine wpList_mstore rfl _ _ _ rfl rfl _ _ rfl 2 H _ _ rfl (.pointer _) rfl (by kernel_rfl) (of_decide_eq_true (by kernel_rfl)) (by kernel_rfl) rfl ?_) | (refine wpList_mstore rfl _ _ _ rfl rfl _ _ rfl 0 H _ _ rfl (.string _) rfl (by kernel_rfl) (of_decide_eq_true (by kernel_rfl)) (by kernel_rfl) rfl ?_) | (refine wpList_mstore rfl _ _ _ rfl rfl _ _ rfl 1 H _ _ rfl (.string _) rfl (by kernel_rfl) (of_decide_eq_true (by kernel_rfl)) (by kernel_rfl) rfl ?_) | (refine wpList_mstore rfl _ _ _ rfl rfl _ _ rfl 2 H _ _ rfl (.string _) rfl (by kernel_rfl) (of_decide_eq_true (by kernel_rfl)) (by kernel_rfl) rfl ?_) | (refine wpList_mstore rfl _ _ _ rfl rfl _ _ rfl 0 H _ _ rfl (.slice _ _ _) rfl (by kernel_rfl) (of_decide_eq_true (by kernel_rfl)) (by kernel_rfl) rfl ?_) | (refine wpList_mstore rfl _ _ _ rfl rfl _ _ rfl 1 H _ _ rfl (.slice _ _ _) rfl (by kernel_rfl) (of_decide_eq_true (by kernel_rfl)) (by kernel_rfl) rfl ?_) | (refine wpList_mstore rfl _ _ _ rfl rfl _ _ rfl 2 H _ _ rfl (.slice _ _ _) rfl (by kernel_rfl) (of_decide_eq_true (by kernel_rfl)) (by kernel_rfl) rfl ?_)); clear H; intro w1 H; simp only [List.set_cons_zero, List.set_cons_succ, b8_all] at H))
    exact ret_mem1 rfl _ rfl 1 H _ rfl (by kernel_rfl) (by kernel_rfl) rfl ⟨rfl, H.toBelow⟩
  · rw [hs] at h128 ⊢
    clear hs
    rw [if_neg (by decide)]
    go_enter Try.func30, Try.ntmps30
    go_wp2_with (first
      | go_skip | (refine wpList_mboxA rfl _ _ rfl H _ rfl ?_; clear H; intro _ w1 _ H) | (refine gate_load _ _ rfl ?_; first | (refine wpList_mloadA rfl _ _ rfl _ rfl 0 H _ rfl (by decide +kernel) (by kernel_rfl) ?_) | (refine wpList_mloadA rfl _ _ rfl _ rfl 1 H _ rfl (by decide +kernel) (by kernel_rfl) ?_) | (refine wpList_mloadA rfl _ _ rfl _ rfl 2 H _ rfl (by decide +kernel) (by kernel_rfl) ?_) | (refine wpList_mload1 rfl _ _ rfl _ _ rfl 0 H _ (.int _ _) rfl rfl (by decide +kernel) ?_) | (refine wpList_mload1 rfl _ _ rfl _ _ rfl 1 H _ (.int _ _) rfl rfl (by decide +kernel) ?_) | (refine wpList_mload1 rfl _ _ rfl _ _ rfl 2 H _ (.int _ _) rfl rfl (by decide +kernel) ?_) | (refine wpList_mload1 rfl _ _ rfl _ _ rfl 0 H _ (.bool _) rfl rfl (by decide +kernel) ?_) | (refine wpList_mload1 rfl _ _ rfl _ _ rfl 1 H _ (.bool _) rfl rfl (by decide +kernel) ?_) | (refine wpList_mload1 rfl _ _ rfl _ _ rfl 2 H _ (.bool _) rfl rfl (by decide +kernel) ?_) | (refine wpList_mload1 rfl _ _ rfl _ _ rfl 0 H _ (.pointer _) rfl rfl (by decide +kernel) ?_) | (refine wpList_mload1 rfl _ _ rfl _ _ rfl 1 H _ (.pointer _) rfl rfl (by decide +kernel) ?_) | (refine wpList_mload1 rfl _ _ rfl _ _ rfl 2 H _ (.pointer _) rfl rfl (by decide +kernel) ?_) | (refine wpList_mload1 rfl _ _ rfl _ _ rfl 0 H _ (.string _) rfl rfl (by decide +kernel) ?_) | (refine wpList_mload1 rfl _ _ rfl _ _ rfl 1 H _ (.string _) rfl rfl (by decide +kernel) ?_) | (refine wpList_mload1 rfl _ _ rfl _ _ rfl 2 H _ (.string _) rfl rfl (by decide +kernel) ?_) | (refine wpList_mload1 rfl _ _ rfl _ _ rfl 0 H _ (.slice _ _ _) rfl rfl (by decide +kernel) ?_) | (refine wpList_mload1 rfl _ _ rfl _ _ rfl 1 H _ (.slice _ _ _) rfl rfl (by decide +kernel) ?_) | (refine wpList_mload1 rfl _ _ rfl _ _ rfl 2 H _ (.slice _ _ _) rfl rfl (by decide +kernel) ?_)) | (refine gate_store _ _ _ rfl ?_; (first | (refine wpList_mstoreA rfl _ _ _ rfl rfl _ rfl 0 H _ _ rfl rfl (by kernel_rfl) (by kernel_rfl) (by kernel_rfl) ?_) | (refine wpList_mstoreA rfl _ _ _ rfl rfl _ rfl 1 H _ _ rfl rfl (by kernel_rfl) (by kernel_rfl) (by kernel_rfl) ?_) | (refine wpList_mstoreA rfl _ _ _ rfl rfl _ rfl 2 H _ _ rfl rfl (by kernel_rfl) (by kernel_rfl) (by kernel_rfl) ?_) | (refine wpList_mstore rfl _ _ _ rfl rfl _ _ rfl 0 H _ _ rfl (.int _ _) rfl (by kernel_rfl) (of_decide_eq_true (by kernel_rfl)) (by kernel_rfl) rfl ?_) | (refine wpList_mstore rfl _ _ _ rfl rfl _ _ rfl 1 H _ _ rfl (.int _ _) rfl (by kernel_rfl) (of_decide_eq_true (by kernel_rfl)) (by kernel_rfl) rfl ?_) | (refine wpList_mstore rfl _ _ _ rfl rfl _ _ rfl 2 H _ _ rfl (.int _ _) rfl (by kernel_rfl) (of_decide_eq_true (by kernel_rfl)) (by kernel_rfl) rfl ?_) | (refine wpList_mstore rfl _ _ _ rfl rfl _ _ rfl 0 H _ _ rfl (.bool _) rfl (by kernel_rfl) (of_decide_eq_true (by kernel_rfl)) (by kernel_rfl) rfl ?_) | (refine wpList_mstore rfl _ _ _ rfl rfl _ _ rfl 1 H _ _ rfl (.bool _) rfl (by kernel_rfl) (of_decide_eq_true (by kernel_rfl)) (by kernel_rfl) rfl ?_) | (refine wpList_mstore rfl _ _ _ rfl rfl _ _ rfl 2 H _ _ rfl (.bool _) rfl (by kernel_rfl) (of_decide_eq_true (by kernel_rfl)) (by kernel_rfl) rfl ?_) | (refine wpList_mstore rfl _ _ _ rfl rfl _ _ rfl 0 H _ _ rfl (.pointer _) rfl (by kernel_rfl) (of_decide_eq_true (by kernel_rfl)) (by kernel_rfl) rfl ?_) | (refine wpList_mstore rfl _ _ _ rfl rfl _ _ rfl 1 H _ _ rfl (.pointer _) rfl (by kernel_rfl) (of_decide_eq_true (by kernel_rfl)) (by kernel_rfl) rfl ?_) | (refine wpList_mstore rfl _ _ _ rfl rfl _ _ rfl 2 H _ _ rfl (.pointer _) rfl (by kernel_rfl) (of_decide_eq_true (by kernel_rfl)) (by kernel_rfl) rfl ?_) | (refine wpList_mstore rfl _ _ _ rfl rfl _ _ rfl 0 H _ _ rfl (.string _) rfl (by kernel_rfl) (of_decide_eq_true (by kernel_rfl)) (by kernel_rfl) rfl ?_) | (refine wpList_mstore rfl _ _ _ rfl rfl _ _ rfl 1 H _ _ rfl (.string _) rfl (by kernel_rfl) (of_decide_eq_true (by kernel_rfl)) (by kernel_rfl) rfl ?_) | (refine wpList_mstore rfl _ _ _ rfl rfl _ _ rfl 2 H _ _ rfl (.string _) rfl (by kernel_rfl) (of_decide_eq_true (by kernel_rfl)) (by kernel_rfl) rfl ?_) | (refine wpList_mstore rfl _ _ _ rfl rfl _ _ rfl 0 H _ _ rfl (.slice _ _ _) rfl (by kernel_rfl) (of_decide_eq_true (by kernel_rfl)) (by kernel_rfl) rfl ?_) | (refine wpList_mstore rfl _ _ _ rfl rfl _ _ rfl 1 H _ _ rfl (.slice _ _ _) rfl (by kernel_rfl) (of_decide_eq_true (by kernel_rfl)) (by kernel_rfl) rfl ?_) | (refine wpList_mstore rfl _ _ _ rfl rfl _ _ rfl 2 H _ _ rfl (.slice _ _ _) rfl (by kernel_rfl) (of_decide_eq_true (by kernel_rfl)) (by kernel_rfl) rfl ?_)); clear H; intro w1 H; simp only [List.set_cons_zero, List.set_cons_succ, b8_all] at H)
      | (refine wpList_mnew rfl _ rfl H _ HZ.out ?_; clear H; intro R2 w1 _ H))
    (try simp only [Act.put, List.setIfInBounds_toArray, List.set_cons_succ, List.set_cons_zero])
    (refine wp_region_quiet_below (by kernel_rfl) (by kernel_rfl) ?_); (repeat (first | (go_big_quiet_want; refine gate_qload _ _ rfl ?_; (first | (refine quiet_mloadA _ _ rfl _ rfl 0 H _ rfl (by decide +kernel) (by kernel_rfl) ?_) | (refine quiet_mloadA _ _ rfl _ rfl 1 H _ rfl (by decide +kernel) (by kernel_rfl) ?_) | (refine quiet_mloadA _ _ rfl _ rfl 2 H _ rfl (by decide +kernel) (by kernel_rfl) ?_) | (refine quiet_mload1 _ _ rfl _ _ rfl 0 H _ (.int _ _) rfl rfl (by decide +kernel) ?_) | (refine quiet_mload1 _ _ rfl _ _ rfl 1 H _ (.int _ _) rfl rfl (by decide +kernel) ?_) | (refine quiet_mload1 _ _ rfl _ _ rfl 2 H _ (.int _ _) rfl rfl (by decide +kernel) ?_) | (refine quiet_mload1 _ _ rfl _ _ rfl 0 H _ (.bool _) rfl rfl (by decide +kernel) ?_) | (refine quiet_mload1 _ _ rfl _ _ rfl 1 H _ (.bool _) rfl rfl (by decide +kernel) ?_) | (refine quiet_mload1 _ _ rfl _ _ rfl 2 H _ (.bool _) rfl rfl (by decide +kernel) ?_) | (refine quiet_mload1 _ _ rfl _ _ rfl 0 H _ (.pointer _) rfl rfl (by decide +kernel) ?_) | (refine quiet_mload1 _ _ rfl _ _ rfl 1 H _ (.pointer _) rfl rfl (by decide +kernel) ?_) | (refine quiet_mload1 _ _ rfl _ _ rfl 2 H _ (.pointer _) rfl rfl (by decide +kernel) ?_) | (refine quiet_mload1 _ _ rfl _ _ rfl 0 H _ (.string _) rfl rfl (by decide +kernel) ?_) | (refine quiet_mload1 _ _ rfl _ _ rfl 1 H _ (.string _) rfl rfl (by decide +kernel) ?_) | (refine quiet_mload1 _ _ rfl _ _ rfl 2 H _ (.string _) rfl rfl (by decide +kernel) ?_) | (refine quiet_mload1 _ _ rfl _ _ rfl 0 H _ (.slice _ _ _) rfl rfl (by decide +kernel) ?_) | (refine quiet_mload1 _ _ rfl _ _ rfl 1 H _ (.slice _ _ _) rfl rfl (by decide +kernel) ?_) | (refine quiet_mload1 _ _ rfl _ _ rfl 2 H _ (.slice _ _ _) rfl rfl (by decide +kernel) ?_)); simp only [Act.put, List.setIfInBounds_toArray, List.set_cons_succ, List.set_cons_zero]; go_big_quiet_on) | go_big_quiet_step (fail))); (refine wpQuiet_nil ?_); intro _ hw'; obtain ⟨⟨dq, osq⟩, hw''⟩ := hw'; (subst hw''); have hq := below_regrown w1 dq osq; replace H := H.next hq; generalize Go.Sort.grow (redrawn w1 dq) osq = wq at *
    go_wp2_with (first
      | go_skip | (refine wpList_mboxA rfl _ _ rfl H _ rfl ?_; clear H; intro _ w1 _ H) | (refine gate_load _ _ rfl ?_; first | (refine wpList_mloadA rfl _ _ rfl _ rfl 0 H _ rfl (by decide +kernel) (by kernel_rfl) ?_) | (refine wpList_mloadA rfl _ _ rfl _ rfl 1 H _ rfl (by decide +kernel) (by kernel_rfl) ?_) | (refine wpList_mloadA rfl _ _ rfl _ rfl 2 H _ rfl (by decide +kernel) (by kernel_rfl) ?_) | (refine wpList_mload1 rfl _ _ rfl _ _ rfl 0 H _ (.int _ _) rfl rfl (by decide +kernel) ?_) | (refine wpList_mload1 rfl _ _ rfl _ _ rfl 1 H _ (.int _ _) rfl rfl (by decide +kernel) ?_) | (refine wpList_mload1 rfl _ _ rfl _ _ rfl 2 H _ (.int _ _) rfl rfl (by decide +kernel) ?_) | (refine wpList_mload1 rfl _ _ rfl _ _ rfl 0 H _ (.bool _) rfl rfl (by decide +kernel) ?_) | (refine wpList_mload1 rfl _ _ rfl _ _ rfl 1 H _ (.bool _) rfl rfl (by decide +kernel) ?_) | (refine wpList_mload1 rfl _ _ rfl _ _ rfl 2 H _ (.bool _) rfl rfl (by decide +kernel) ?_) | (refine wpList_mload1 rfl _ _ rfl _ _ rfl 0 H _ (.pointer _) rfl rfl (by decide +kernel) ?_) | (refine wpList_mload1 rfl _ _ rfl _ _ rfl 1 H _ (.pointer _) rfl rfl (by decide +kernel) ?_) | (refine wpList_mload1 rfl _ _ rfl _ _ rfl 2 H _ (.pointer _) rfl rfl (by decide +kernel) ?_) | (refine wpList_mload1 rfl _ _ rfl _ _ rfl 0 H _ (.string _) rfl rfl (by decide +kernel) ?_) | (refine wpList_mload1 rfl _ _ rfl _ _ rfl 1 H _ (.string _) rfl rfl (by decide +kernel) ?_) | (refine wpList_mload1 rfl _ _ rfl _ _ rfl 2 H _ (.string _) rfl rfl (by decide +kernel) ?_) | (refine wpList_mload1 rfl _ _ rfl _ _ rfl 0 H _ (.slice _ _ _) rfl rfl (by decide +kernel) ?_) | (refine wpList_mload1 rfl _ _ rfl _ _ rfl 1 H _ (.slice _ _ _) rfl rfl (by decide +kernel) ?_) | (refine wpList_mload1 rfl _ _ rfl _ _ rfl 2 H _ (.slice _ _ _) rfl rfl (by decide +kernel) ?_)) | (refine gate_store _ _ _ rfl ?_; (first | (refine wpList_mstoreA rfl _ _ _ rfl rfl _ rfl 0 H _ _ rfl rfl (by kernel_rfl) (by kernel_rfl) (by kernel_rfl) ?_) | (refine wpList_mstoreA rfl _ _ _ rfl rfl _ rfl 1 H _ _ rfl rfl (by kernel_rfl) (by kernel_rfl) (by kernel_rfl) ?_) | (refine wpList_mstoreA rfl _ _ _ rfl rfl _ rfl 2 H _ _ rfl rfl (by kernel_rfl) (by kernel_rfl) (by kernel_rfl) ?_) | (refine wpList_mstore rfl _ _ _ rfl rfl _ _ rfl 0 H _ _ rfl (.int _ _) rfl (by kernel_rfl) (of_decide_eq_true (by kernel_rfl)) (by kernel_rfl) rfl ?_) | (refine wpList_mstore rfl _ _ _ rfl rfl _ _ rfl 1 H _ _ rfl (.int _ _) rfl (by kernel_rfl) (of_decide_eq_true (by kernel_rfl)) (by kernel_rfl) rfl ?_) | (refine wpList_mstore rfl _ _ _ rfl rfl _ _ rfl 2 H _ _ rfl (.int _ _) rfl (by kernel_rfl) (of_decide_eq_true (by kernel_rfl)) (by kernel_rfl) rfl ?_) | (refine wpList_mstore rfl _ _ _ rfl rfl _ _ rfl 0 H _ _ rfl (.bool _) rfl (by kernel_rfl) (of_decide_eq_true (by kernel_rfl)) (by kernel_rfl) rfl ?_) | (refine wpList_mstore rfl _ _ _ rfl rfl _ _ rfl 1 H _ _ rfl (.bool _) rfl (by kernel_rfl) (of_decide_eq_true (by kernel_rfl)) (by kernel_rfl) rfl ?_) | (refine wpList_mstore rfl _ _ _ rfl rfl _ _ rfl 2 H _ _ rfl (.bool _) rfl (by kernel_rfl) (of_decide_eq_true (by kernel_rfl)) (by kernel_rfl) rfl ?_) | (refine wpList_mstore rfl _ _ _ rfl rfl _ _ rfl 0 H _ _ rfl (.pointer _) rfl (by kernel_rfl) (of_decide_eq_true (by kernel_rfl)) (by kernel_rfl) rfl ?_) | (refine wpList_mstore rfl _ _ _ rfl rfl _ _ rfl 1 H _ _ rfl (.pointer _) rfl (by kernel_rfl) (of_decide_eq_true (by kernel_rfl)) (by kernel_rfl) rfl ?_) | (refine wpList_mstore rfl _ _ _ rfl rfl _ _ rfl 2 H _ _ rfl (.pointer _) rfl (by kernel_rfl) (of_decide_eq_true (by kernel_rfl)) (by kernel_rfl) rfl ?_) | (refine wpList_mstore rfl _ _ _ rfl rfl _ _ rfl 0 H _ _ rfl (.string _) rfl (by kernel_rfl) (of_decide_eq_true (by kernel_rfl)) (by kernel_rfl) rfl ?_) | (refine wpList_mstore rfl _ _ _ rfl rfl _ _ rfl 1 H _ _ rfl (.string _) rfl (by kernel_rfl) (of_decide_eq_true (by kernel_rfl)) (by kernel_rfl) rfl ?_) | (refine wpList_mstore rfl _ _ _ rfl rfl _ _ rfl 2 H _ _ rfl (.string _) rfl (by kernel_rfl) (of_decide_eq_true (by kernel_rfl)) (by kernel_rfl) rfl ?_) | (refine wpList_mstore rfl _ _ _ rfl rfl _ _ rfl 0 H _ _ rfl (.slice _ _ _) rfl (by kernel_rfl) (of_decide_eq_true (by kernel_rfl)) (by kernel_rfl) rfl ?_) | (refine wpList_mstore rfl _ _ _ rfl rfl _ _ rfl 1 H _ _ rfl (.slice _ _ _) rfl (by kernel_rfl) (of_decide_eq_true (by kernel_rfl)) (by kernel_rfl) rfl ?_) | (refine wpList_mstore rfl _ _ _ rfl rfl _ _ rfl 2 H _ _ rfl (.slice _ _ _) rfl (by kernel_rfl) (of_decide_eq_true (by kernel_rfl)) (by kernel_rfl) rfl ?_)); clear H; intro w1 H; simp only [List.set_cons_zero, List.set_cons_succ, b8_all] at H)
      | (refine wpList_mnew rfl _ rfl H _ HZ.out ?_; clear H; intro R1 w1 _ H))
    exact ret_mem1 rfl _ rfl 1 H _ rfl (by kernel_rfl) (by kernel_rfl) rfl ⟨rfl, H.toBelow⟩
end Go.Proofs.Ytodmhmkbiafahaa
