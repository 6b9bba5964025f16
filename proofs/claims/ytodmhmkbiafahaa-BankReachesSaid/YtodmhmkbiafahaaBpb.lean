/-
  Package bank's mayBe, prgBanks, place and Prg. Over this seat's translation; octets are from 0 to 255, addresses from 0 to 65535.
-/
import Derived.Test.YtodmhmkbiafahaaBpa
import Derived.BigQuiet
namespace Go.Proofs.Ytodmhmkbiafahaa
open Go.RowKit
set_option linter.unusedSimpArgs false
set_option linter.unusedVariables false

theorem tdivn {x y : Int} (h : 0 ≤ x) : Int.tdiv x y = x / y := Int.tdiv_eq_ediv_of_nonneg h
theorem tmodn {x y : Int} (h : 0 ≤ x) : Int.tmod x y = x % y := Int.tmod_eq_emod_of_nonneg h
set_option maxHeartbeats 1000000 in
theorem bplace_ct (b u s t : Int) (w : World) (b0 : 0 ≤ b) (b1 : b < 1048576) (u0 : 0 < u) (u1 : u ≤ 32768) (s0 : 0 < s) (s1 : s ≤ 1048576) (t0 : 0 ≤ t) (t1 : t < 1048576) : Calls Try.prog 17 #[.int .i64 b, .int .i64 u, .int .i64 s, .int .i64 t] w fun e w' => e = .returned (.int .i64 (b * u % s + t % u)) ∧ Below w.heap.size w w' := by
  have p0 : 0 ≤ b * u := Int.mul_nonneg b0 (by omega)
  have p1 : b * u ≤ 1048576 * 32768 := Int.mul_le_mul (by omega) u1 (by omega) (by omega)
  have e1 := tmodn (y := s) p0
  have e2 := tmodn (y := u) t0
  obtain ⟨p, hp⟩ : ∃ p, b * u = p := ⟨_, rfl⟩
  rw [hp] at p0 p1 e1 ⊢
  have q0 := Int.emod_nonneg p (show s ≠ 0 by omega)
  have q1 := Int.emod_lt_of_pos p s0
  have r0 := Int.emod_nonneg t (show u ≠ 0 by omega)
  have r1 := Int.emod_lt_of_pos t u0
  have z1 : (s == 0) = false := by simp; omega
  have z2 : (u == 0) = false := by simp; omega
  obtain ⟨x, hx⟩ : ∃ x, p % s = x := ⟨_, rfl⟩
  obtain ⟨y, hy⟩ : ∃ y, t % u = y := ⟨_, rfl⟩
  rw [hx] at e1 q0 q1 ⊢
  rw [hy] at e2 r0 r1 ⊢
  have z3 : s ≠ 0 := by omega
  have z4 : u ≠ 0 := by omega
  clear hx hy
  have H := Mem.start w
  go_enter Try.func17, Try.ntmps17
  go_wp2_with fail
  (refine wp_region_quiet_below (by kernel_rfl) (by kernel_rfl) ?_); (repeat (first | (go_big_quiet_want; refine gate_qload _ _ rfl ?_; (first | (refine quiet_mloadA _ _ rfl _ rfl 0 H _ rfl (by decide +kernel) (by kernel_rfl) ?_) | (refine quiet_mload1 _ _ rfl _ _ rfl 0 H _ (.int _ _) rfl rfl (by decide +kernel) ?_) | (refine quiet_mload1 _ _ rfl _ _ rfl 0 H _ (.bool _) rfl rfl (by decide +kernel) ?_) | (refine quiet_mload1 _ _ rfl _ _ rfl 0 H _ (.pointer _) rfl rfl (by decide +kernel) ?_) | (refine quiet_mload1 _ _ rfl _ _ rfl 0 H _ (.string _) rfl rfl (by decide +kernel) ?_) | (refine quiet_mload1 _ _ rfl _ _ rfl 0 H _ (.slice _ _ _) rfl rfl (by decide +kernel) ?_)); simp only [Act.put, List.setIfInBounds_toArray, List.set_cons_succ, List.set_cons_zero]; go_big_quiet_on) | go_big_quiet_step (fail))); (refine wpQuiet_nil ?_); intro _ hw'; obtain ⟨⟨dq, osq⟩, hw''⟩ := hw'; (subst hw''); have hq := below_regrown w dq osq; replace H := H.next hq; generalize Go.Sort.grow (redrawn w dq) osq = wq at *
  go_wp2
  go_ret
  exact ⟨rfl, H.toBelow⟩
set_option maxHeartbeats 1000000 in
theorem bmay_ct (m : Mp) (p k : Int) (w : World) : Calls Try.prog 15 #[mpV m, .int .i64 p, .int .i64 k] w fun e w' => e = .returned (.bool (mayB m && (prgOk p && chrOk k))) ∧ Below w.heap.size w w' := by
  have QC := Lib.hid (fun wr => mcheck_ct m wr)
  have QH : ∀ wr, Calls Try.prog 22 #[crtV ⟨0, 0, p, k, false, false, false, false, false⟩] wr fun e w' => e = .returned (.int .i64 (if (prgOk p && chrOk k) = true then 0 else 5)) ∧ Below wr.heap.size wr w' := fun wr => by
    have h := hcheck_ct ⟨0, 0, p, k, false, false, false, false, false⟩ wr
    have e : chkN ⟨0, 0, p, k, false, false, false, false, false⟩ = if (prgOk p && chrOk k) = true then 0 else 5 := by
      unfold chkN chkV sizOk
      simp [mapOk, subN]
    rwa [e] at h
  unfold mpV at *
  cases hm : mayB m <;> cases hs : (prgOk p && chrOk k)
  all_goals
    have QD := Lib.hid QH
    rw [hm] at QC
    rw [hs] at QD
    unfold crtV at QD
    simp only [Bool.false_and, Bool.true_and]
    have H := Mem.start w
    clear hm hs
    go_enter Try.func15, Try.ntmps15
    go_wp2_with (first
      | (go_at_call 21; (with_reducible refine (QC.out _).mono ?_); rintro e w2 ⟨rfl, hB⟩; replace H := H.next hB; clear hB)
      | (go_at_call 22; (refine (QD.out _).mono ?_); rintro e w2 ⟨rfl, hB⟩; replace H := H.next hB; clear hB)
      | go_skip | (refine wpList_mboxA rfl _ _ rfl H _ rfl ?_; clear H; intro _ w1 _ H) | (refine gate_load _ _ rfl ?_; first | (refine wpList_mloadA rfl _ _ rfl _ rfl 0 H _ rfl (by decide +kernel) (by kernel_rfl) ?_) | (refine wpList_mload1 rfl _ _ rfl _ _ rfl 0 H _ (.int _ _) rfl rfl (by decide +kernel) ?_) | (refine wpList_mload1 rfl _ _ rfl _ _ rfl 0 H _ (.bool _) rfl rfl (by decide +kernel) ?_) | (refine wpList_mload1 rfl _ _ rfl _ _ rfl 0 H _ (.pointer _) rfl rfl (by decide +kernel) ?_) | (refine wpList_mload1 rfl _ _ rfl _ _ rfl 0 H _ (.string _) rfl rfl (by decide +kernel) ?_) | (refine wpList_mload1 rfl _ _ rfl _ _ rfl 0 H _ (.slice _ _ _) rfl rfl (by decide +kernel) ?_)) | (refine gate_store _ _ _ rfl ?_; (first | (refine wpList_mstoreA rfl _ _ _ rfl rfl _ rfl 0 H _ _ rfl rfl (by kernel_rfl) (by kernel_rfl) (by kernel_rfl) ?_) | (refine wpList_mstore rfl _ _ _ rfl rfl _ _ rfl 0 H _ _ rfl (.int _ _) rfl (by kernel_rfl) (of_decide_eq_true (by kernel_rfl)) (by kernel_rfl) rfl ?_) | (refine wpList_mstore rfl _ _ _ rfl rfl _ _ rfl 0 H _ _ rfl (.bool _) rfl (by kernel_rfl) (of_decide_eq_true (by kernel_rfl)) (by kernel_rfl) rfl ?_) | (refine wpList_mstore rfl _ _ _ rfl rfl _ _ rfl 0 H _ _ rfl (.pointer _) rfl (by kernel_rfl) (of_decide_eq_true (by kernel_rfl)) (by kernel_rfl) rfl ?_) | (refine wpList_mstore rfl _ _ _ rfl rfl _ _ rfl 0 H _ _ rfl (.string _) rfl (by kernel_rfl) (of_decide_eq_true (by kernel_rfl)) (by kernel_rfl) rfl ?_) | (refine wpList_mstore rfl _ _ _ rfl rfl _ _ rfl 0 H _ _ rfl (.slice _ _ _) rfl (by kernel_rfl) (of_decide_eq_true (by kernel_rfl)) (by kernel_rfl) rfl ?_)); clear H; intro w1 H; simp only [List.set_cons_zero, List.set_cons_succ] at H))
    go_ret
    exact ⟨rfl, H.toBelow⟩
end Go.Proofs.Ytodmhmkbiafahaa
