/-
  Package tile's Load. Over this seat's translation; no condition. (Written by gen_ti.py.)
-/
import Derived.Test.YtbgclhhhfldphaaTic
namespace Go.Proofs.Ytbgclhhhfldphaa
open Go.RowKit Go.Sort
set_option linter.unusedSimpArgs false
set_option linter.unusedVariables false
set_option maxRecDepth 20000

theorem alloc_r5 (o : Oper) (h : o.op = .alloc 46) (ρ : Operand → Value) (w : World) : (execOp ρ o).run Try.prog w = .ok (.value (ptrTo w.heap.size)) (w.alloc (.cells #[.int .u8 0, .int .u8 0, .int .u8 0, .int .u8 0, .int .u8 0] 46)) := by
  unfold execOp
  rw [h]
  kernel_rfl
theorem ldB_wrap (n : BitVec 16) (v : BitVec 8) : bits .or .u16 (bits .andNot .u16 (w16 n) 255) (IntKind.u16.wrap (w8 v)) = w16 (ldB n v) := by
  have h := w8_lt v
  rw [wrap16 h.1 (by omega)]
  exact ldB_raw n v
theorem tint_one (v : BitVec 8) : (bits .and .u8 (w8 v) 1 != 0) = v.getLsbD 0 := by
  have h := bit8 v 0
  simp only [Int.pow_zero, Int.ediv_one] at h
  rw [h]
  cases v.getLsbD 0 <;> rfl
theorem tint_two (v : BitVec 8) : (bits .and .u8 (w8 v) 2 != 0) = v.getLsbD 1 := byte_two v
attribute [local irreducible] wpList
set_option maxHeartbeats 4000000 in
theorem tload_s (t : Ti) (lo hi tint : BitVec 8) (ls hs : Bool) (w : World) : Calls Try.prog 10 #[.agg (tiC t), .agg #[.int .u8 (w8 lo), .bool ls], .agg #[.int .u8 (w8 hi), .bool hs], .int .u8 (w8 tint), .bool true] w fun e w' => e = .returned (.agg (tiC (loadT t lo hi tint true))) ∧ Below w.heap.size w w' := by
  have HZ := Lib.hid alloc_ti
  have QN := Lib.hid (fun R wr => numbers_ct R wr)
  have QW := Lib.hid (fun b wr => whole14_ct b wr)
  have e1 := tint_one tint
  have e2 := tint_two tint
  unfold loadT
  generalize tint.getLsbD 0 = p0 at *
  generalize tint.getLsbD 1 = p1 at *
  have H := Mem.start w
  have M1 : True := trivial
  have M2 : True := trivial
  have M3 : True := trivial
  have M4 : True := trivial
  go_enter Try.func10, Try.ntmps10
  go_wp2_with (first | (clear M1; refine wpList_mboxA rfl _ _ rfl H _ rfl ?_; clear H; intro Rc w1 _ H) | (clear M2; refine wpList_mboxA rfl _ _ rfl H _ rfl ?_; clear H; intro Rl w1 _ H) | (clear M3; refine wpList_mboxA rfl _ _ rfl H _ rfl ?_; clear H; intro Rh w1 _ H) | (clear M4; refine wpList_mnew rfl _ rfl H _ HZ.out ?_; clear H; intro Rr w1 _ H) | fail)
  (try simp only [Act.put, List.setIfInBounds_toArray, List.set_cons_succ, List.set_cons_zero])
  (refine wp_region_box1 23 11 46 (.cells #[.int .u8 0, .int .u8 0, .int .u8 0, .int .u8 0, .int .u8 0] 46) (by kernel_rfl) (by kernel_rfl) (by kernel_rfl) (by rfl) alloc_r5 fun wy hwy => ?_); have H0 := H; replace H := H.next hwy; (simp only [List.take_succ_cons, List.take_zero, List.drop_succ_cons, List.drop_zero]); (repeat (first | (go_big_quiet_want; refine gate_qload _ _ rfl ?_; refine quiet_mload1 5 _ rfl _ _ rfl 1 H _ (.int .u8 _) rfl rfl (by decide +kernel) ?_; simp only [Act.put, List.setIfInBounds_toArray, List.set_cons_succ, List.set_cons_zero]; go_big_quiet_on) | (go_big_quiet_want; refine gate_qload _ _ rfl ?_; refine quiet_mload1 5 _ rfl _ _ rfl 2 H _ (.int .u8 _) rfl rfl (by decide +kernel) ?_; simp only [Act.put, List.setIfInBounds_toArray, List.set_cons_succ, List.set_cons_zero]; go_big_quiet_on) | (go_big_quiet_want; refine gate_qload _ _ rfl ?_; refine quiet_mload1 4 _ rfl _ _ rfl 1 H _ (.bool _) rfl rfl (by decide +kernel) ?_; simp only [Act.put, List.setIfInBounds_toArray, List.set_cons_succ, List.set_cons_zero]; go_big_quiet_on) | (go_big_quiet_want; refine gate_qload _ _ rfl ?_; refine quiet_mload1 4 _ rfl _ _ rfl 2 H _ (.bool _) rfl rfl (by decide +kernel) ?_; simp only [Act.put, List.setIfInBounds_toArray, List.set_cons_succ, List.set_cons_zero]; go_big_quiet_on) | go_big_quiet_step (first | (go_at_call 21; (with_reducible exact Calls.regrown_of (QW.out _ _))) | fail))); (refine wpQuiet_nil ?_); intro bx wx hB hb0 hb1 hO; clear H; have H := H0.add hB hb0 hO; clear H0 hB hb0 hb1 hO hwy; simp only [Act.put, ptrTo, List.setIfInBounds_toArray, List.set_cons_succ, List.set_cons_zero]
  go_wp2_with (first | (refine gate_store _ _ _ rfl ?_; refine wpList_mstoreA rfl 46 _ _ rfl rfl _ rfl 0 H _ _ rfl rfl (by kernel_rfl) (by kernel_rfl) (by kernel_rfl) ?_; clear H; intro w1 H; simp only [List.set_cons_zero, List.set_cons_succ] at H) | (go_at_call 19; (with_reducible refine (QN.out _ _).mono ?_); rintro e w2 ⟨rfl, hB⟩; replace H := H.next hB; clear hB) | fail)
  refine wp_loop_rounds (5 + 1) ?_
  rw [rounds_succ]
  go_wp2_with (first | (refine gate_tix _ _ _ rfl ?_; refine wpList_tix rfl _ _ _ rfl (.agg (nums _)) (.int .i64 0) _ rfl rfl (num_at0 _) ?_) | fail)
  (try simp only [Act.put, List.setIfInBounds_toArray, List.set_cons_succ, List.set_cons_zero])
  (refine wp_region_tails_below 11 (by kernel_rfl) (by kernel_rfl) ?_); (simp only [List.take_succ_cons, List.take_zero, List.drop_succ_cons, List.drop_zero]); (repeat (first | (go_big_quiet_want; refine gate_qload _ _ rfl ?_; refine quiet_mload1 22 _ rfl _ _ rfl 4 H _ (.int .u16 _) rfl rfl (by decide +kernel) ?_; simp only [Act.put, List.setIfInBounds_toArray, List.set_cons_succ, List.set_cons_zero]; go_big_quiet_on) | (go_big_quiet_want; refine gate_qload _ _ rfl ?_; refine quiet_mload1 5 _ rfl _ _ rfl 0 H _ (.int .u8 _) rfl rfl (by decide +kernel) ?_; simp only [Act.put, List.setIfInBounds_toArray, List.set_cons_succ, List.set_cons_zero]; go_big_quiet_on) | go_big_quiet_step ((first | fail)))); (refine wpQuiet_nil ?_); intro _ hw'; obtain ⟨⟨dq, osq⟩, hw''⟩ := hw'; (subst hw''); replace H := H.next (below_regrown _ dq osq); generalize Go.Sort.grow (redrawn _ dq) osq = wq at *
  go_wp2_with (first | (refine gate_store _ _ _ rfl ?_; refine wpList_mstore rfl 22 _ _ rfl rfl _ _ rfl 4 H _ _ rfl (.int .u16 _) rfl (by kernel_rfl) (of_decide_eq_true (by kernel_rfl)) (by kernel_rfl) (ti_I (ldB_wrap _ _) rfl) ?_; clear H; intro w1 H; simp only [List.set_cons_zero, List.set_cons_succ] at H) | fail)
  rw [rounds_succ]
  go_wp2_with (first | (refine gate_tix _ _ _ rfl ?_; refine wpList_tix rfl _ _ _ rfl (.agg (nums _)) (.int .i64 1) _ rfl rfl (num_at1 _) ?_) | fail)
  (try simp only [Act.put, List.setIfInBounds_toArray, List.set_cons_succ, List.set_cons_zero])
  (refine wp_region_tails_below 11 (by kernel_rfl) (by kernel_rfl) ?_); (simp only [List.take_succ_cons, List.take_zero, List.drop_succ_cons, List.drop_zero]); (repeat (first | (go_big_quiet_want; refine gate_qload _ _ rfl ?_; refine quiet_mload1 22 _ rfl _ _ rfl 4 H _ (.int .u16 _) rfl rfl (by decide +kernel) ?_; simp only [Act.put, List.setIfInBounds_toArray, List.set_cons_succ, List.set_cons_zero]; go_big_quiet_on) | (go_big_quiet_want; refine gate_qload _ _ rfl ?_; refine quiet_mload1 5 _ rfl _ _ rfl 0 H _ (.int .u8 _) rfl rfl (by decide +kernel) ?_; simp only [Act.put, List.setIfInBounds_toArray, List.set_cons_succ, List.set_cons_zero]; go_big_quiet_on) | go_big_quiet_step ((first | fail)))); (refine wpQuiet_nil ?_); intro _ hw'; obtain ⟨⟨dq, osq⟩, hw''⟩ := hw'; (subst hw''); replace H := H.next (below_regrown _ dq osq); generalize Go.Sort.grow (redrawn _ dq) osq = wq at *
  go_wp2_with (first | (refine gate_store _ _ _ rfl ?_; refine wpList_mstore rfl 22 _ _ rfl rfl _ _ rfl 4 H _ _ rfl (.int .u16 _) rfl (by kernel_rfl) (of_decide_eq_true (by kernel_rfl)) (by kernel_rfl) (ti_I (ldB_wrap _ _) rfl) ?_; clear H; intro w1 H; simp only [List.set_cons_zero, List.set_cons_succ] at H) | fail)
  rw [rounds_succ]
  go_wp2_with (first | (refine gate_tix _ _ _ rfl ?_; refine wpList_tix rfl _ _ _ rfl (.agg (nums _)) (.int .i64 2) _ rfl rfl (num_at2 _) ?_) | fail)
  (try simp only [Act.put, List.setIfInBounds_toArray, List.set_cons_succ, List.set_cons_zero])
  (refine wp_region_tails_below 11 (by kernel_rfl) (by kernel_rfl) ?_); (simp only [List.take_succ_cons, List.take_zero, List.drop_succ_cons, List.drop_zero]); (repeat (first | (go_big_quiet_want; refine gate_qload _ _ rfl ?_; refine quiet_mload1 22 _ rfl _ _ rfl 4 H _ (.int .u16 _) rfl rfl (by decide +kernel) ?_; simp only [Act.put, List.setIfInBounds_toArray, List.set_cons_succ, List.set_cons_zero]; go_big_quiet_on) | (go_big_quiet_want; refine gate_qload _ _ rfl ?_; refine quiet_mload1 5 _ rfl _ _ rfl 0 H _ (.int .u8 _) rfl rfl (by decide +kernel) ?_; simp only [Act.put, List.setIfInBounds_toArray, List.set_cons_succ, List.set_cons_zero]; go_big_quiet_on) | go_big_quiet_step ((first | fail)))); (refine wpQuiet_nil ?_); intro _ hw'; obtain ⟨⟨dq, osq⟩, hw''⟩ := hw'; (subst hw''); replace H := H.next (below_regrown _ dq osq); generalize Go.Sort.grow (redrawn _ dq) osq = wq at *
  go_wp2_with (first | (refine gate_store _ _ _ rfl ?_; refine wpList_mstore rfl 22 _ _ rfl rfl _ _ rfl 4 H _ _ rfl (.int .u16 _) rfl (by kernel_rfl) (of_decide_eq_true (by kernel_rfl)) (by kernel_rfl) (ti_I (ldB_wrap _ _) rfl) ?_; clear H; intro w1 H; simp only [List.set_cons_zero, List.set_cons_succ] at H) | fail)
  rw [rounds_succ]
  go_wp2_with (first | (refine gate_tix _ _ _ rfl ?_; refine wpList_tix rfl _ _ _ rfl (.agg (nums _)) (.int .i64 3) _ rfl rfl (num_at3 _) ?_) | fail)
  (try simp only [Act.put, List.setIfInBounds_toArray, List.set_cons_succ, List.set_cons_zero])
  (refine wp_region_tails_below 11 (by kernel_rfl) (by kernel_rfl) ?_); (simp only [List.take_succ_cons, List.take_zero, List.drop_succ_cons, List.drop_zero]); (repeat (first | (go_big_quiet_want; refine gate_qload _ _ rfl ?_; refine quiet_mload1 22 _ rfl _ _ rfl 4 H _ (.int .u16 _) rfl rfl (by decide +kernel) ?_; simp only [Act.put, List.setIfInBounds_toArray, List.set_cons_succ, List.set_cons_zero]; go_big_quiet_on) | (go_big_quiet_want; refine gate_qload _ _ rfl ?_; refine quiet_mload1 5 _ rfl _ _ rfl 0 H _ (.int .u8 _) rfl rfl (by decide +kernel) ?_; simp only [Act.put, List.setIfInBounds_toArray, List.set_cons_succ, List.set_cons_zero]; go_big_quiet_on) | go_big_quiet_step ((first | fail)))); (refine wpQuiet_nil ?_); intro _ hw'; obtain ⟨⟨dq, osq⟩, hw''⟩ := hw'; (subst hw''); replace H := H.next (below_regrown _ dq osq); generalize Go.Sort.grow (redrawn _ dq) osq = wq at *
  go_wp2_with (first | (refine gate_store _ _ _ rfl ?_; refine wpList_mstore rfl 22 _ _ rfl rfl _ _ rfl 4 H _ _ rfl (.int .u16 _) rfl (by kernel_rfl) (of_decide_eq_true (by kernel_rfl)) (by kernel_rfl) (ti_I (ldB_wrap _ _) rfl) ?_; clear H; intro w1 H; simp only [List.set_cons_zero, List.set_cons_succ] at H) | fail)
  rw [rounds_succ]
  go_wp2_with (first | (refine gate_tix _ _ _ rfl ?_; refine wpList_tix rfl _ _ _ rfl (.agg (nums _)) (.int .i64 4) _ rfl rfl (num_at4 _) ?_) | fail)
  (try simp only [Act.put, List.setIfInBounds_toArray, List.set_cons_succ, List.set_cons_zero])
  (refine wp_region_tails_below 11 (by kernel_rfl) (by kernel_rfl) ?_); (simp only [List.take_succ_cons, List.take_zero, List.drop_succ_cons, List.drop_zero]); (repeat (first | (go_big_quiet_want; refine gate_qload _ _ rfl ?_; refine quiet_mload1 22 _ rfl _ _ rfl 4 H _ (.int .u16 _) rfl rfl (by decide +kernel) ?_; simp only [Act.put, List.setIfInBounds_toArray, List.set_cons_succ, List.set_cons_zero]; go_big_quiet_on) | (go_big_quiet_want; refine gate_qload _ _ rfl ?_; refine quiet_mload1 5 _ rfl _ _ rfl 0 H _ (.int .u8 _) rfl rfl (by decide +kernel) ?_; simp only [Act.put, List.setIfInBounds_toArray, List.set_cons_succ, List.set_cons_zero]; go_big_quiet_on) | go_big_quiet_step ((first | fail)))); (refine wpQuiet_nil ?_); intro _ hw'; obtain ⟨⟨dq, osq⟩, hw''⟩ := hw'; (subst hw''); replace H := H.next (below_regrown _ dq osq); generalize Go.Sort.grow (redrawn _ dq) osq = wq at *
  go_wp2_with (first | (refine gate_store _ _ _ rfl ?_; refine wpList_mstore rfl 22 _ _ rfl rfl _ _ rfl 4 H _ _ rfl (.int .u16 _) rfl (by kernel_rfl) (of_decide_eq_true (by kernel_rfl)) (by kernel_rfl) (ti_I (ldB_wrap _ _) rfl) ?_; clear H; intro w1 H; simp only [List.set_cons_zero, List.set_cons_succ] at H) | fail)
  rw [rounds_succ]
  go_wp2_with (first | (refine gate_load _ _ rfl ?_; refine wpList_mloadA rfl 24 _ rfl _ rfl 4 H (tiC _) rfl (by decide +kernel) (by kernel_rfl) ?_) | (refine gate_store _ _ _ rfl ?_; refine wpList_mstoreA rfl 24 _ _ rfl rfl _ rfl 1 H (tiC _) _ rfl rfl (by kernel_rfl) (by kernel_rfl) (by kernel_rfl) ?_; clear H; intro w1 H; simp only [List.set_cons_zero, List.set_cons_succ] at H) | fail)
  refine ret_mem1 rfl _ rfl 1 H _ rfl (by kernel_rfl) (by kernel_rfl) rfl ?_
  exact ⟨rfl, H.toBelow⟩
set_option maxHeartbeats 4000000 in
theorem tload_l (t : Ti) (lo hi tint : BitVec 8) (hs : Bool) (w : World) : Calls Try.prog 10 #[.agg (tiC t), .agg #[.int .u8 (w8 lo), .bool true], .agg #[.int .u8 (w8 hi), .bool hs], .int .u8 (w8 tint), .bool false] w fun e w' => e = .returned (.agg (tiC (loadT t lo hi tint true))) ∧ Below w.heap.size w w' := by
  have HZ := Lib.hid alloc_ti
  have QN := Lib.hid (fun R wr => numbers_ct R wr)
  have QW := Lib.hid (fun b wr => whole14_ct b wr)
  have e1 := tint_one tint
  have e2 := tint_two tint
  unfold loadT
  generalize tint.getLsbD 0 = p0 at *
  generalize tint.getLsbD 1 = p1 at *
  have H := Mem.start w
  have M1 : True := trivial
  have M2 : True := trivial
  have M3 : True := trivial
  have M4 : True := trivial
  go_enter Try.func10, Try.ntmps10
  go_wp2_with (first | (clear M1; refine wpList_mboxA rfl _ _ rfl H _ rfl ?_; clear H; intro Rc w1 _ H) | (clear M2; refine wpList_mboxA rfl _ _ rfl H _ rfl ?_; clear H; intro Rl w1 _ H) | (clear M3; refine wpList_mboxA rfl _ _ rfl H _ rfl ?_; clear H; intro Rh w1 _ H) | (clear M4; refine wpList_mnew rfl _ rfl H _ HZ.out ?_; clear H; intro Rr w1 _ H) | fail)
  (try simp only [Act.put, List.setIfInBounds_toArray, List.set_cons_succ, List.set_cons_zero])
  (refine wp_region_box1 23 11 46 (.cells #[.int .u8 0, .int .u8 0, .int .u8 0, .int .u8 0, .int .u8 0] 46) (by kernel_rfl) (by kernel_rfl) (by kernel_rfl) (by rfl) alloc_r5 fun wy hwy => ?_); have H0 := H; replace H := H.next hwy; (simp only [List.take_succ_cons, List.take_zero, List.drop_succ_cons, List.drop_zero]); (repeat (first | (go_big_quiet_want; refine gate_qload _ _ rfl ?_; refine quiet_mload1 5 _ rfl _ _ rfl 1 H _ (.int .u8 _) rfl rfl (by decide +kernel) ?_; simp only [Act.put, List.setIfInBounds_toArray, List.set_cons_succ, List.set_cons_zero]; go_big_quiet_on) | (go_big_quiet_want; refine gate_qload _ _ rfl ?_; refine quiet_mload1 5 _ rfl _ _ rfl 2 H _ (.int .u8 _) rfl rfl (by decide +kernel) ?_; simp only [Act.put, List.setIfInBounds_toArray, List.set_cons_succ, List.set_cons_zero]; go_big_quiet_on) | (go_big_quiet_want; refine gate_qload _ _ rfl ?_; refine quiet_mload1 4 _ rfl _ _ rfl 1 H _ (.bool _) rfl rfl (by decide +kernel) ?_; simp only [Act.put, List.setIfInBounds_toArray, List.set_cons_succ, List.set_cons_zero]; go_big_quiet_on) | (go_big_quiet_want; refine gate_qload _ _ rfl ?_; refine quiet_mload1 4 _ rfl _ _ rfl 2 H _ (.bool _) rfl rfl (by decide +kernel) ?_; simp only [Act.put, List.setIfInBounds_toArray, List.set_cons_succ, List.set_cons_zero]; go_big_quiet_on) | go_big_quiet_step (first | (go_at_call 21; (with_reducible exact Calls.regrown_of (QW.out _ _))) | fail))); (refine wpQuiet_nil ?_); intro bx wx hB hb0 hb1 hO; clear H; have H := H0.add hB hb0 hO; clear H0 hB hb0 hb1 hO hwy; simp only [Act.put, ptrTo, List.setIfInBounds_toArray, List.set_cons_succ, List.set_cons_zero]
  go_wp2_with (first | (refine gate_store _ _ _ rfl ?_; refine wpList_mstoreA rfl 46 _ _ rfl rfl _ rfl 0 H _ _ rfl rfl (by kernel_rfl) (by kernel_rfl) (by kernel_rfl) ?_; clear H; intro w1 H; simp only [List.set_cons_zero, List.set_cons_succ] at H) | (go_at_call 19; (with_reducible refine (QN.out _ _).mono ?_); rintro e w2 ⟨rfl, hB⟩; replace H := H.next hB; clear hB) | fail)
  refine wp_loop_rounds (5 + 1) ?_
  rw [rounds_succ]
  go_wp2_with (first | (refine gate_tix _ _ _ rfl ?_; refine wpList_tix rfl _ _ _ rfl (.agg (nums _)) (.int .i64 0) _ rfl rfl (num_at0 _) ?_) | fail)
  (try simp only [Act.put, List.setIfInBounds_toArray, List.set_cons_succ, List.set_cons_zero])
  (refine wp_region_tails_below 11 (by kernel_rfl) (by kernel_rfl) ?_); (simp only [List.take_succ_cons, List.take_zero, List.drop_succ_cons, List.drop_zero]); (repeat (first | (go_big_quiet_want; refine gate_qload _ _ rfl ?_; refine quiet_mload1 22 _ rfl _ _ rfl 4 H _ (.int .u16 _) rfl rfl (by decide +kernel) ?_; simp only [Act.put, List.setIfInBounds_toArray, List.set_cons_succ, List.set_cons_zero]; go_big_quiet_on) | (go_big_quiet_want; refine gate_qload _ _ rfl ?_; refine quiet_mload1 5 _ rfl _ _ rfl 0 H _ (.int .u8 _) rfl rfl (by decide +kernel) ?_; simp only [Act.put, List.setIfInBounds_toArray, List.set_cons_succ, List.set_cons_zero]; go_big_quiet_on) | go_big_quiet_step ((first | fail)))); (refine wpQuiet_nil ?_); intro _ hw'; obtain ⟨⟨dq, osq⟩, hw''⟩ := hw'; (subst hw''); replace H := H.next (below_regrown _ dq osq); generalize Go.Sort.grow (redrawn _ dq) osq = wq at *
  go_wp2_with (first | (refine gate_store _ _ _ rfl ?_; refine wpList_mstore rfl 22 _ _ rfl rfl _ _ rfl 4 H _ _ rfl (.int .u16 _) rfl (by kernel_rfl) (of_decide_eq_true (by kernel_rfl)) (by kernel_rfl) (ti_I (ldB_wrap _ _) rfl) ?_; clear H; intro w1 H; simp only [List.set_cons_zero, List.set_cons_succ] at H) | fail)
  rw [rounds_succ]
  go_wp2_with (first | (refine gate_tix _ _ _ rfl ?_; refine wpList_tix rfl _ _ _ rfl (.agg (nums _)) (.int .i64 1) _ rfl rfl (num_at1 _) ?_) | fail)
  (try simp only [Act.put, List.setIfInBounds_toArray, List.set_cons_succ, List.set_cons_zero])
  (refine wp_region_tails_below 11 (by kernel_rfl) (by kernel_rfl) ?_); (simp only [List.take_succ_cons, List.take_zero, List.drop_succ_cons, List.drop_zero]); (repeat (first | (go_big_quiet_want; refine gate_qload _ _ rfl ?_; refine quiet_mload1 22 _ rfl _ _ rfl 4 H _ (.int .u16 _) rfl rfl (by decide +kernel) ?_; simp only [Act.put, List.setIfInBounds_toArray, List.set_cons_succ, List.set_cons_zero]; go_big_quiet_on) | (go_big_quiet_want; refine gate_qload _ _ rfl ?_; refine quiet_mload1 5 _ rfl _ _ rfl 0 H _ (.int .u8 _) rfl rfl (by decide +kernel) ?_; simp only [Act.put, List.setIfInBounds_toArray, List.set_cons_succ, List.set_cons_zero]; go_big_quiet_on) | go_big_quiet_step ((first | fail)))); (refine wpQuiet_nil ?_); intro _ hw'; obtain ⟨⟨dq, osq⟩, hw''⟩ := hw'; (subst hw''); replace H := H.next (below_regrown _ dq osq); generalize Go.Sort.grow (redrawn _ dq) osq = wq at *
  go_wp2_with (first | (refine gate_store _ _ _ rfl ?_; refine wpList_mstore rfl 22 _ _ rfl rfl _ _ rfl 4 H _ _ rfl (.int .u16 _) rfl (by kernel_rfl) (of_decide_eq_true (by kernel_rfl)) (by kernel_rfl) (ti_I (ldB_wrap _ _) rfl) ?_; clear H; intro w1 H; simp only [List.set_cons_zero, List.set_cons_succ] at H) | fail)
  rw [rounds_succ]
  go_wp2_with (first | (refine gate_tix _ _ _ rfl ?_; refine wpList_tix rfl _ _ _ rfl (.agg (nums _)) (.int .i64 2) _ rfl rfl (num_at2 _) ?_) | fail)
  (try simp only [Act.put, List.setIfInBounds_toArray, List.set_cons_succ, List.set_cons_zero])
  (refine wp_region_tails_below 11 (by kernel_rfl) (by kernel_rfl) ?_); (simp only [List.take_succ_cons, List.take_zero, List.drop_succ_cons, List.drop_zero]); (repeat (first | (go_big_quiet_want; refine gate_qload _ _ rfl ?_; refine quiet_mload1 22 _ rfl _ _ rfl 4 H _ (.int .u16 _) rfl rfl (by decide +kernel) ?_; simp only [Act.put, List.setIfInBounds_toArray, List.set_cons_succ, List.set_cons_zero]; go_big_quiet_on) | (go_big_quiet_want; refine gate_qload _ _ rfl ?_; refine quiet_mload1 5 _ rfl _ _ rfl 0 H _ (.int .u8 _) rfl rfl (by decide +kernel) ?_; simp only [Act.put, List.setIfInBounds_toArray, List.set_cons_succ, List.set_cons_zero]; go_big_quiet_on) | go_big_quiet_step ((first | fail)))); (refine wpQuiet_nil ?_); intro _ hw'; obtain ⟨⟨dq, osq⟩, hw''⟩ := hw'; (subst hw''); replace H := H.next (below_regrown _ dq osq); generalize Go.Sort.grow (redrawn _ dq) osq = wq at *
  go_wp2_with (first | (refine gate_store _ _ _ rfl ?_; refine wpList_mstore rfl 22 _ _ rfl rfl _ _ rfl 4 H _ _ rfl (.int .u16 _) rfl (by kernel_rfl) (of_decide_eq_true (by kernel_rfl)) (by kernel_rfl) (ti_I (ldB_wrap _ _) rfl) ?_; clear H; intro w1 H; simp only [List.set_cons_zero, List.set_cons_succ] at H) | fail)
  rw [rounds_succ]
  go_wp2_with (first | (refine gate_tix _ _ _ rfl ?_; refine wpList_tix rfl _ _ _ rfl (.agg (nums _)) (.int .i64 3) _ rfl rfl (num_at3 _) ?_) | fail)
  (try simp only [Act.put, List.setIfInBounds_toArray, List.set_cons_succ, List.set_cons_zero])
  (refine wp_region_tails_below 11 (by kernel_rfl) (by kernel_rfl) ?_); (simp only [List.take_succ_cons, List.take_zero, List.drop_succ_cons, List.drop_zero]); (repeat (first | (go_big_quiet_want; refine gate_qload _ _ rfl ?_; refine quiet_mload1 22 _ rfl _ _ rfl 4 H _ (.int .u16 _) rfl rfl (by decide +kernel) ?_; simp only [Act.put, List.setIfInBounds_toArray, List.set_cons_succ, List.set_cons_zero]; go_big_quiet_on) | (go_big_quiet_want; refine gate_qload _ _ rfl ?_; refine quiet_mload1 5 _ rfl _ _ rfl 0 H _ (.int .u8 _) rfl rfl (by decide +kernel) ?_; simp only [Act.put, List.setIfInBounds_toArray, List.set_cons_succ, List.set_cons_zero]; go_big_quiet_on) | go_big_quiet_step ((first | fail)))); (refine wpQuiet_nil ?_); intro _ hw'; obtain ⟨⟨dq, osq⟩, hw''⟩ := hw'; (subst hw''); replace H := H.next (below_regrown _ dq osq); generalize Go.Sort.grow (redrawn _ dq) osq = wq at *
  go_wp2_with (first | (refine gate_store _ _ _ rfl ?_; refine wpList_mstore rfl 22 _ _ rfl rfl _ _ rfl 4 H _ _ rfl (.int .u16 _) rfl (by kernel_rfl) (of_decide_eq_true (by kernel_rfl)) (by kernel_rfl) (ti_I (ldB_wrap _ _) rfl) ?_; clear H; intro w1 H; simp only [List.set_cons_zero, List.set_cons_succ] at H) | fail)
  rw [rounds_succ]
  go_wp2_with (first | (refine gate_tix _ _ _ rfl ?_; refine wpList_tix rfl _ _ _ rfl (.agg (nums _)) (.int .i64 4) _ rfl rfl (num_at4 _) ?_) | fail)
  (try simp only [Act.put, List.setIfInBounds_toArray, List.set_cons_succ, List.set_cons_zero])
  (refine wp_region_tails_below 11 (by kernel_rfl) (by kernel_rfl) ?_); (simp only [List.take_succ_cons, List.take_zero, List.drop_succ_cons, List.drop_zero]); (repeat (first | (go_big_quiet_want; refine gate_qload _ _ rfl ?_; refine quiet_mload1 22 _ rfl _ _ rfl 4 H _ (.int .u16 _) rfl rfl (by decide +kernel) ?_; simp only [Act.put, List.setIfInBounds_toArray, List.set_cons_succ, List.set_cons_zero]; go_big_quiet_on) | (go_big_quiet_want; refine gate_qload _ _ rfl ?_; refine quiet_mload1 5 _ rfl _ _ rfl 0 H _ (.int .u8 _) rfl rfl (by decide +kernel) ?_; simp only [Act.put, List.setIfInBounds_toArray, List.set_cons_succ, List.set_cons_zero]; go_big_quiet_on) | go_big_quiet_step ((first | fail)))); (refine wpQuiet_nil ?_); intro _ hw'; obtain ⟨⟨dq, osq⟩, hw''⟩ := hw'; (subst hw''); replace H := H.next (below_regrown _ dq osq); generalize Go.Sort.grow (redrawn _ dq) osq = wq at *
  go_wp2_with (first | (refine gate_store _ _ _ rfl ?_; refine wpList_mstore rfl 22 _ _ rfl rfl _ _ rfl 4 H _ _ rfl (.int .u16 _) rfl (by kernel_rfl) (of_decide_eq_true (by kernel_rfl)) (by kernel_rfl) (ti_I (ldB_wrap _ _) rfl) ?_; clear H; intro w1 H; simp only [List.set_cons_zero, List.set_cons_succ] at H) | fail)
  rw [rounds_succ]
  go_wp2_with (first | (refine gate_load _ _ rfl ?_; refine wpList_mloadA rfl 24 _ rfl _ rfl 4 H (tiC _) rfl (by decide +kernel) (by kernel_rfl) ?_) | (refine gate_store _ _ _ rfl ?_; refine wpList_mstoreA rfl 24 _ _ rfl rfl _ rfl 1 H (tiC _) _ rfl rfl (by kernel_rfl) (by kernel_rfl) (by kernel_rfl) ?_; clear H; intro w1 H; simp only [List.set_cons_zero, List.set_cons_succ] at H) | fail)
  refine ret_mem1 rfl _ rfl 1 H _ rfl (by kernel_rfl) (by kernel_rfl) rfl ?_
  exact ⟨rfl, H.toBelow⟩
set_option maxHeartbeats 4000000 in
theorem tload_h (t : Ti) (lo hi tint : BitVec 8) (hs : Bool) (w : World) : Calls Try.prog 10 #[.agg (tiC t), .agg #[.int .u8 (w8 lo), .bool false], .agg #[.int .u8 (w8 hi), .bool hs], .int .u8 (w8 tint), .bool false] w fun e w' => e = .returned (.agg (tiC (loadT t lo hi tint hs))) ∧ Below w.heap.size w w' := by
  have HZ := Lib.hid alloc_ti
  have QN := Lib.hid (fun R wr => numbers_ct R wr)
  have QW := Lib.hid (fun b wr => whole14_ct b wr)
  have e1 := tint_one tint
  have e2 := tint_two tint
  unfold loadT
  generalize tint.getLsbD 0 = p0 at *
  generalize tint.getLsbD 1 = p1 at *
  have H := Mem.start w
  have M1 : True := trivial
  have M2 : True := trivial
  have M3 : True := trivial
  have M4 : True := trivial
  go_enter Try.func10, Try.ntmps10
  go_wp2_with (first | (clear M1; refine wpList_mboxA rfl _ _ rfl H _ rfl ?_; clear H; intro Rc w1 _ H) | (clear M2; refine wpList_mboxA rfl _ _ rfl H _ rfl ?_; clear H; intro Rl w1 _ H) | (clear M3; refine wpList_mboxA rfl _ _ rfl H _ rfl ?_; clear H; intro Rh w1 _ H) | (clear M4; refine wpList_mnew rfl _ rfl H _ HZ.out ?_; clear H; intro Rr w1 _ H) | fail)
  (try simp only [Act.put, List.setIfInBounds_toArray, List.set_cons_succ, List.set_cons_zero])
  (refine wp_region_box1 23 11 46 (.cells #[.int .u8 0, .int .u8 0, .int .u8 0, .int .u8 0, .int .u8 0] 46) (by kernel_rfl) (by kernel_rfl) (by kernel_rfl) (by rfl) alloc_r5 fun wy hwy => ?_); have H0 := H; replace H := H.next hwy; (simp only [List.take_succ_cons, List.take_zero, List.drop_succ_cons, List.drop_zero]); (repeat (first | (go_big_quiet_want; refine gate_qload _ _ rfl ?_; refine quiet_mload1 5 _ rfl _ _ rfl 1 H _ (.int .u8 _) rfl rfl (by decide +kernel) ?_; simp only [Act.put, List.setIfInBounds_toArray, List.set_cons_succ, List.set_cons_zero]; go_big_quiet_on) | (go_big_quiet_want; refine gate_qload _ _ rfl ?_; refine quiet_mload1 5 _ rfl _ _ rfl 2 H _ (.int .u8 _) rfl rfl (by decide +kernel) ?_; simp only [Act.put, List.setIfInBounds_toArray, List.set_cons_succ, List.set_cons_zero]; go_big_quiet_on) | (go_big_quiet_want; refine gate_qload _ _ rfl ?_; refine quiet_mload1 4 _ rfl _ _ rfl 1 H _ (.bool _) rfl rfl (by decide +kernel) ?_; simp only [Act.put, List.setIfInBounds_toArray, List.set_cons_succ, List.set_cons_zero]; go_big_quiet_on) | (go_big_quiet_want; refine gate_qload _ _ rfl ?_; refine quiet_mload1 4 _ rfl _ _ rfl 2 H _ (.bool _) rfl rfl (by decide +kernel) ?_; simp only [Act.put, List.setIfInBounds_toArray, List.set_cons_succ, List.set_cons_zero]; go_big_quiet_on) | go_big_quiet_step (first | (go_at_call 21; (with_reducible exact Calls.regrown_of (QW.out _ _))) | fail))); (refine wpQuiet_nil ?_); intro bx wx hB hb0 hb1 hO; clear H; have H := H0.add hB hb0 hO; clear H0 hB hb0 hb1 hO hwy; simp only [Act.put, ptrTo, List.setIfInBounds_toArray, List.set_cons_succ, List.set_cons_zero]
  go_wp2_with (first | (refine gate_store _ _ _ rfl ?_; refine wpList_mstoreA rfl 46 _ _ rfl rfl _ rfl 0 H _ _ rfl rfl (by kernel_rfl) (by kernel_rfl) (by kernel_rfl) ?_; clear H; intro w1 H; simp only [List.set_cons_zero, List.set_cons_succ] at H) | (go_at_call 19; (with_reducible refine (QN.out _ _).mono ?_); rintro e w2 ⟨rfl, hB⟩; replace H := H.next hB; clear hB) | fail)
  refine wp_loop_rounds (5 + 1) ?_
  rw [rounds_succ]
  go_wp2_with (first | (refine gate_tix _ _ _ rfl ?_; refine wpList_tix rfl _ _ _ rfl (.agg (nums _)) (.int .i64 0) _ rfl rfl (num_at0 _) ?_) | fail)
  (try simp only [Act.put, List.setIfInBounds_toArray, List.set_cons_succ, List.set_cons_zero])
  (refine wp_region_tails_below 11 (by kernel_rfl) (by kernel_rfl) ?_); (simp only [List.take_succ_cons, List.take_zero, List.drop_succ_cons, List.drop_zero]); (repeat (first | (go_big_quiet_want; refine gate_qload _ _ rfl ?_; refine quiet_mload1 22 _ rfl _ _ rfl 4 H _ (.int .u16 _) rfl rfl (by decide +kernel) ?_; simp only [Act.put, List.setIfInBounds_toArray, List.set_cons_succ, List.set_cons_zero]; go_big_quiet_on) | (go_big_quiet_want; refine gate_qload _ _ rfl ?_; refine quiet_mload1 5 _ rfl _ _ rfl 0 H _ (.int .u8 _) rfl rfl (by decide +kernel) ?_; simp only [Act.put, List.setIfInBounds_toArray, List.set_cons_succ, List.set_cons_zero]; go_big_quiet_on) | go_big_quiet_step ((first | fail)))); (refine wpQuiet_nil ?_); intro _ hw'; obtain ⟨⟨dq, osq⟩, hw''⟩ := hw'; (subst hw''); replace H := H.next (below_regrown _ dq osq); generalize Go.Sort.grow (redrawn _ dq) osq = wq at *
  go_wp2_with (first | (refine gate_store _ _ _ rfl ?_; refine wpList_mstore rfl 22 _ _ rfl rfl _ _ rfl 4 H _ _ rfl (.int .u16 _) rfl (by kernel_rfl) (of_decide_eq_true (by kernel_rfl)) (by kernel_rfl) (ti_I (ldB_wrap _ _) rfl) ?_; clear H; intro w1 H; simp only [List.set_cons_zero, List.set_cons_succ] at H) | fail)
  rw [rounds_succ]
  go_wp2_with (first | (refine gate_tix _ _ _ rfl ?_; refine wpList_tix rfl _ _ _ rfl (.agg (nums _)) (.int .i64 1) _ rfl rfl (num_at1 _) ?_) | fail)
  (try simp only [Act.put, List.setIfInBounds_toArray, List.set_cons_succ, List.set_cons_zero])
  (refine wp_region_tails_below 11 (by kernel_rfl) (by kernel_rfl) ?_); (simp only [List.take_succ_cons, List.take_zero, List.drop_succ_cons, List.drop_zero]); (repeat (first | (go_big_quiet_want; refine gate_qload _ _ rfl ?_; refine quiet_mload1 22 _ rfl _ _ rfl 4 H _ (.int .u16 _) rfl rfl (by decide +kernel) ?_; simp only [Act.put, List.setIfInBounds_toArray, List.set_cons_succ, List.set_cons_zero]; go_big_quiet_on) | (go_big_quiet_want; refine gate_qload _ _ rfl ?_; refine quiet_mload1 5 _ rfl _ _ rfl 0 H _ (.int .u8 _) rfl rfl (by decide +kernel) ?_; simp only [Act.put, List.setIfInBounds_toArray, List.set_cons_succ, List.set_cons_zero]; go_big_quiet_on) | go_big_quiet_step ((first | fail)))); (refine wpQuiet_nil ?_); intro _ hw'; obtain ⟨⟨dq, osq⟩, hw''⟩ := hw'; (subst hw''); replace H := H.next (below_regrown _ dq osq); generalize Go.Sort.grow (redrawn _ dq) osq = wq at *
  go_wp2_with (first | (refine gate_store _ _ _ rfl ?_; refine wpList_mstore rfl 22 _ _ rfl rfl _ _ rfl 4 H _ _ rfl (.int .u16 _) rfl (by kernel_rfl) (of_decide_eq_true (by kernel_rfl)) (by kernel_rfl) (ti_I (ldB_wrap _ _) rfl) ?_; clear H; intro w1 H; simp only [List.set_cons_zero, List.set_cons_succ] at H) | fail)
  rw [rounds_succ]
  go_wp2_with (first | (refine gate_tix _ _ _ rfl ?_; refine wpList_tix rfl _ _ _ rfl (.agg (nums _)) (.int .i64 2) _ rfl rfl (num_at2 _) ?_) | fail)
  (try simp only [Act.put, List.setIfInBounds_toArray, List.set_cons_succ, List.set_cons_zero])
  (refine wp_region_tails_below 11 (by kernel_rfl) (by kernel_rfl) ?_); (simp only [List.take_succ_cons, List.take_zero, List.drop_succ_cons, List.drop_zero]); (repeat (first | (go_big_quiet_want; refine gate_qload _ _ rfl ?_; refine quiet_mload1 22 _ rfl _ _ rfl 4 H _ (.int .u16 _) rfl rfl (by decide +kernel) ?_; simp only [Act.put, List.setIfInBounds_toArray, List.set_cons_succ, List.set_cons_zero]; go_big_quiet_on) | (go_big_quiet_want; refine gate_qload _ _ rfl ?_; refine quiet_mload1 5 _ rfl _ _ rfl 0 H _ (.int .u8 _) rfl rfl (by decide +kernel) ?_; simp only [Act.put, List.setIfInBounds_toArray, List.set_cons_succ, List.set_cons_zero]; go_big_quiet_on) | go_big_quiet_step ((first | fail)))); (refine wpQuiet_nil ?_); intro _ hw'; obtain ⟨⟨dq, osq⟩, hw''⟩ := hw'; (subst hw''); replace H := H.next (below_regrown _ dq osq); generalize Go.Sort.grow (redrawn _ dq) osq = wq at *
  go_wp2_with (first | (refine gate_store _ _ _ rfl ?_; refine wpList_mstore rfl 22 _ _ rfl rfl _ _ rfl 4 H _ _ rfl (.int .u16 _) rfl (by kernel_rfl) (of_decide_eq_true (by kernel_rfl)) (by kernel_rfl) (ti_I (ldB_wrap _ _) rfl) ?_; clear H; intro w1 H; simp only [List.set_cons_zero, List.set_cons_succ] at H) | fail)
  rw [rounds_succ]
  go_wp2_with (first | (refine gate_tix _ _ _ rfl ?_; refine wpList_tix rfl _ _ _ rfl (.agg (nums _)) (.int .i64 3) _ rfl rfl (num_at3 _) ?_) | fail)
  (try simp only [Act.put, List.setIfInBounds_toArray, List.set_cons_succ, List.set_cons_zero])
  (refine wp_region_tails_below 11 (by kernel_rfl) (by kernel_rfl) ?_); (simp only [List.take_succ_cons, List.take_zero, List.drop_succ_cons, List.drop_zero]); (repeat (first | (go_big_quiet_want; refine gate_qload _ _ rfl ?_; refine quiet_mload1 22 _ rfl _ _ rfl 4 H _ (.int .u16 _) rfl rfl (by decide +kernel) ?_; simp only [Act.put, List.setIfInBounds_toArray, List.set_cons_succ, List.set_cons_zero]; go_big_quiet_on) | (go_big_quiet_want; refine gate_qload _ _ rfl ?_; refine quiet_mload1 5 _ rfl _ _ rfl 0 H _ (.int .u8 _) rfl rfl (by decide +kernel) ?_; simp only [Act.put, List.setIfInBounds_toArray, List.set_cons_succ, List.set_cons_zero]; go_big_quiet_on) | go_big_quiet_step ((first | fail)))); (refine wpQuiet_nil ?_); intro _ hw'; obtain ⟨⟨dq, osq⟩, hw''⟩ := hw'; (subst hw''); replace H := H.next (below_regrown _ dq osq); generalize Go.Sort.grow (redrawn _ dq) osq = wq at *
  go_wp2_with (first | (refine gate_store _ _ _ rfl ?_; refine wpList_mstore rfl 22 _ _ rfl rfl _ _ rfl 4 H _ _ rfl (.int .u16 _) rfl (by kernel_rfl) (of_decide_eq_true (by kernel_rfl)) (by kernel_rfl) (ti_I (ldB_wrap _ _) rfl) ?_; clear H; intro w1 H; simp only [List.set_cons_zero, List.set_cons_succ] at H) | fail)
  rw [rounds_succ]
  go_wp2_with (first | (refine gate_tix _ _ _ rfl ?_; refine wpList_tix rfl _ _ _ rfl (.agg (nums _)) (.int .i64 4) _ rfl rfl (num_at4 _) ?_) | fail)
  (try simp only [Act.put, List.setIfInBounds_toArray, List.set_cons_succ, List.set_cons_zero])
  (refine wp_region_tails_below 11 (by kernel_rfl) (by kernel_rfl) ?_); (simp only [List.take_succ_cons, List.take_zero, List.drop_succ_cons, List.drop_zero]); (repeat (first | (go_big_quiet_want; refine gate_qload _ _ rfl ?_; refine quiet_mload1 22 _ rfl _ _ rfl 4 H _ (.int .u16 _) rfl rfl (by decide +kernel) ?_; simp only [Act.put, List.setIfInBounds_toArray, List.set_cons_succ, List.set_cons_zero]; go_big_quiet_on) | (go_big_quiet_want; refine gate_qload _ _ rfl ?_; refine quiet_mload1 5 _ rfl _ _ rfl 0 H _ (.int .u8 _) rfl rfl (by decide +kernel) ?_; simp only [Act.put, List.setIfInBounds_toArray, List.set_cons_succ, List.set_cons_zero]; go_big_quiet_on) | go_big_quiet_step ((first | fail)))); (refine wpQuiet_nil ?_); intro _ hw'; obtain ⟨⟨dq, osq⟩, hw''⟩ := hw'; (subst hw''); replace H := H.next (below_regrown _ dq osq); generalize Go.Sort.grow (redrawn _ dq) osq = wq at *
  go_wp2_with (first | (refine gate_store _ _ _ rfl ?_; refine wpList_mstore rfl 22 _ _ rfl rfl _ _ rfl 4 H _ _ rfl (.int .u16 _) rfl (by kernel_rfl) (of_decide_eq_true (by kernel_rfl)) (by kernel_rfl) (ti_I (ldB_wrap _ _) rfl) ?_; clear H; intro w1 H; simp only [List.set_cons_zero, List.set_cons_succ] at H) | fail)
  rw [rounds_succ]
  go_wp2_with (first | (refine gate_load _ _ rfl ?_; refine wpList_mloadA rfl 24 _ rfl _ rfl 4 H (tiC _) rfl (by decide +kernel) (by kernel_rfl) ?_) | (refine gate_store _ _ _ rfl ?_; refine wpList_mstoreA rfl 24 _ _ rfl rfl _ rfl 1 H (tiC _) _ rfl rfl (by kernel_rfl) (by kernel_rfl) (by kernel_rfl) ?_; clear H; intro w1 H; simp only [List.set_cons_zero, List.set_cons_succ] at H) | fail)
  refine ret_mem1 rfl _ rfl 1 H _ rfl (by kernel_rfl) (by kernel_rfl) rfl ?_
  exact ⟨rfl, H.toBelow⟩
theorem tload_ct (t : Ti) (lo hi tint : BitVec 8) (s ls hs : Bool) (w : World) : Calls Try.prog 10 #[.agg (tiC t), .agg #[.int .u8 (w8 lo), .bool ls], .agg #[.int .u8 (w8 hi), .bool hs], .int .u8 (w8 tint), .bool s] w fun e w' => e = .returned (.agg (tiC (loadT t lo hi tint (s || ls || hs)))) ∧ Below w.heap.size w w' := by
  cases s
  · cases ls
    · exact tload_h t lo hi tint hs w
    · exact tload_l t lo hi tint hs w
  · exact tload_s t lo hi tint ls hs w
end Go.Proofs.Ytbgclhhhfldphaa
