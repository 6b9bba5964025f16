/-
  Several texts in one: what is read and written by the functions on the way to the statements. Conditions stand in each theorem.
-/
import Derived.Test.YtbonamhinnhlnaaGreatDoorP20
import Derived.Test.YtbonamhinnhlnaaGreatDoorP17
namespace Go.Proofs.YtbonamhinnhlnaaGreatDoor
open Go.RowKit
set_option linter.unusedSimpArgs false
set_option linter.unusedVariables false
set_option maxRecDepth 20000

theorem run_alloc_bus (o : Oper) (h : o.op = .alloc 36) (ρ : Operand → Value) (w : World) : (execOp ρ o).run Tryz.prog w = .ok (.value (ptrTo w.heap.size)) (w.alloc (.cells (bsC bs0) 36)) := by
  unfold execOp
  rw [h]
  kernel_rfl
def loB (n : Int) : Int := n % 256
def hiB (n : Int) : Int := n / 256
theorem split2_ct (n : Int) (s : Bool) (w : World) (h0 : 0 ≤ n) (h7 : n < 65536) : Calls Tryz.prog 173 #[.int .u16 n, .bool s] w fun e w' => e = .returned (.tuple #[.agg #[.int .u8 (loB n), .bool s], .agg #[.int .u8 (hiB n), .bool s]]) ∧ Below w.heap.size w w' := split_ct n s w h0 h7
/-- What is put with the upper half of an address. -/
abbrev CW (f : FuncId) (s : Wk) (v : Int) (b : Bool) (r : Bs) : Prop := ∀ (R : Nat) (T : TypeId) (w : World), w.heap[R]? = some (.cells (wkC s) T) → Calls Tryz.prog f #[.pointer (some ⟨R, 0, none⟩), .agg #[.int .u8 v, .bool b]] w fun e w' => e = .returned (.agg (bsC r)) ∧ Mem w.heap.size [R] w w' [(R, wkC s)]
set_option maxHeartbeats 4000000 in
theorem putwith_no (s : Wk) (v : Int) (b : Bool) (F : Fiw s) (g0 : 0 ≤ v) (g1 : v < 256) (e1 : s.cr = false) : CW 250 s v b (putWith s v b) := by
  intro R T w hR
  unfold putWith
  rw [if_pos e1]
  have e2 := Lib.hid e1
  have FF := F
  obtain ⟨⟨a0, a1, x0, x1, y0, y1, s0, s1, p0, p1, q0, q1, cp, cq, pc0, pc1, op0, op1, ad0, ad1, d0, d1⟩, v0, v1⟩ := F
  have F := FF
  clear cp cq FF
  have h0 : 0 ≤ hiB s.ad := by unfold hiB; omega
  have h1 : hiB s.ad < 256 := by unfold hiB; omega
  have l0 : 0 ≤ loB s.ad := by unfold loB; omega
  have l1 : loB s.ad < 256 := by unfold loB; omega
  have HZB := Lib.hid alloc_by
  have HZU := Lib.hid alloc_bus
  have H := Mem.begin hR
  clear hR
  have MR1 : True := trivial
  have MR2 : True := trivial
  go_enter Tryz.func250, Tryz.ntmps250
  go_wp2_with (first | (refine wpList_mboxA rfl _ _ rfl H _ rfl ?_; clear H; (first | (clear MR1; intro R1 w1 _ H) | (clear MR2; intro R2 w1 _ H))) | go_skip | (refine wpList_mnew rfl _ rfl H _ HZU.out ?_; clear H; (first | (clear MR1; intro R1 w1 _ H) | (clear MR2; intro R2 w1 _ H))) | fail)
  (try simp only [Act.put, List.setIfInBounds_toArray, List.set_cons_succ, List.set_cons_zero])
  (refine wp_region_mem 54 [⟨14, 16, 99, ptrTo, #[.int .u8 0, .bool false], #[.int .u8 (loB s.ad), .bool (s.ads)], undef⟩, ⟨15, 17, 99, ptrTo, #[.int .u8 0, .bool false], #[.int .u8 (hiB s.ad), .bool (s.ads)], undef⟩] (by kernel_rfl) (by kernel_rfl) (by rfl) (by kernel_rfl) (fun _ => by kernel_rfl) (by simp) H fun β wy hwy => ?_); have H0 := H; replace H := H.next hwy; (simp only [swapL, swapO, List.find?_cons, List.find?_nil, Nat.reduceBEq, Nat.reduceAdd]); (repeat (first | (go_big_quiet_want; refine gate_qload _ _ rfl ?_; (first | (refine quiet_mload1 _ _ rfl _ _ rfl 2 H _ (.int _ _) rfl rfl (by decide +kernel) ?_) | (refine quiet_mload1 _ _ rfl _ _ rfl 2 H _ (.bool _) rfl rfl (by decide +kernel) ?_)); simp only [Act.put, List.setIfInBounds_toArray, List.set_cons_succ, List.set_cons_zero]; go_big_quiet_on) | go_big_quiet_step ((first | (go_at_call 173; (with_reducible exact Calls.regrown_of (split2_ct _ _ _ (by first | assumption | decide | omega) (by first | assumption | decide | omega)))) | fail)))); (refine wpQuiet_nil ?_); (refine ⟨⟨⟨⟨_, run_alloc_by _ rfl _⟩, ⟨rfl, by kernel_rfl, rfl, by kernel_rfl, fun _ => rfl⟩, trivial⟩, ⟨⟨_, run_alloc_by _ rfl _⟩, ⟨rfl, by kernel_rfl, rfl, by kernel_rfl, fun _ => rfl⟩, trivial⟩, trivial⟩, fun wx HM => ?_⟩); clear H; have H := HM; clear HM H0 hwy; (dsimp only [boxesL, List.cons_append, List.nil_append] at H); (try dsimp only [ptrTo]); (try generalize hq0 : β 14 = q0 at *); (try generalize hq1 : β 15 = q1 at *)
  go_wp2_with (first | go_skip | (refine gate_load _ _ rfl ?_; first | (refine wpList_mload1 rfl _ _ rfl _ _ rfl 4 H _ (.bool _) rfl rfl (by decide +kernel) ?_)) | fail)
  (try simp only [Act.put, List.setIfInBounds_toArray, List.set_cons_succ, List.set_cons_zero])
  (refine wp_region_tails_below 8 (by kernel_rfl) (by kernel_rfl) ?_); (simp only [List.take_succ_cons, List.take_zero, List.drop_succ_cons, List.drop_zero]); (repeat (first | (go_big_quiet_want; refine gate_qload _ _ rfl ?_; (first | (refine quiet_mloadA 23 _ rfl _ rfl 1 H #[.int .u8 _, .bool _] rfl (by decide +kernel) (by kernel_rfl) ?_) | (refine quiet_mloadA 23 _ rfl _ rfl 3 H #[.int .u8 _, .bool _] rfl (by decide +kernel) (by kernel_rfl) ?_) | (refine quiet_mloadA 104 _ rfl _ rfl 4 H (wkC _) rfl (by decide +kernel) (by kernel_rfl) ?_)); simp only [Act.put, List.setIfInBounds_toArray, List.set_cons_succ, List.set_cons_zero]; go_big_quiet_on) | go_big_quiet_step ((first | (go_at_call 183; (with_reducible exact Calls.regrown_of (more_ct _ _ _ _))) | (go_at_call 227; (with_reducible exact Calls.regrown_of (and_ct _ _ _ _ _))) | (go_at_call 182; (with_reducible exact Calls.regrown_of (put_ct _ _ _ _))) | fail)))); (refine wpQuiet_nil ?_); intro _ hw'; obtain ⟨⟨dq, osq⟩, hw''⟩ := hw'; (subst hw''); replace H := H.next (below_regrown _ dq osq)
  go_wp2_with (first | go_skip | (refine gate_store _ _ _ rfl ?_; (first | (refine wpList_mstoreA rfl 36 _ _ rfl rfl _ rfl 2 H (bsC _) _ rfl rfl (by kernel_rfl) (by kernel_rfl) (by kernel_rfl) ?_)); clear H; intro w1 H; simp only [List.set_cons_zero, List.set_cons_succ] at H) | fail)
  first | refine ret_mem1 rfl _ rfl 2 H _ rfl (by kernel_rfl) (by kernel_rfl) rfl ?_
  exact ⟨rfl, H.only (i := 4) rfl⟩
set_option maxHeartbeats 4000000 in
theorem putwith_yes (s : Wk) (v : Int) (b : Bool) (F : Fiw s) (g0 : 0 ≤ v) (g1 : v < 256) (e1 : s.cr = true) : CW 250 s v b (putWith s v b) := by
  intro R T w hR
  unfold putWith
  rw [if_neg (by rw [e1]; decide)]
  have e2 := Lib.hid e1
  have FF := F
  obtain ⟨⟨a0, a1, x0, x1, y0, y1, s0, s1, p0, p1, q0, q1, cp, cq, pc0, pc1, op0, op1, ad0, ad1, d0, d1⟩, v0, v1⟩ := F
  have F := FF
  clear cp cq FF
  have h0 : 0 ≤ hiB s.ad := by unfold hiB; omega
  have h1 : hiB s.ad < 256 := by unfold hiB; omega
  have l0 : 0 ≤ loB s.ad := by unfold loB; omega
  have l1 : loB s.ad < 256 := by unfold loB; omega
  have HZB := Lib.hid alloc_by
  have HZU := Lib.hid alloc_bus
  have H := Mem.begin hR
  clear hR
  have MR1 : True := trivial
  have MR2 : True := trivial
  go_enter Tryz.func250, Tryz.ntmps250
  have o1 := bothV_le v (hiB s.ad) g0 g1 h0 h1
  go_wp2_with (first | (refine wpList_mboxA rfl _ _ rfl H _ rfl ?_; clear H; (first | (clear MR1; intro R1 w1 _ H) | (clear MR2; intro R2 w1 _ H))) | go_skip | (refine wpList_mnew rfl _ rfl H _ HZU.out ?_; clear H; (first | (clear MR1; intro R1 w1 _ H) | (clear MR2; intro R2 w1 _ H))) | fail)
  (try simp only [Act.put, List.setIfInBounds_toArray, List.set_cons_succ, List.set_cons_zero])
  (refine wp_region_mem 54 [⟨14, 16, 99, ptrTo, #[.int .u8 0, .bool false], #[.int .u8 (loB s.ad), .bool (s.ads)], undef⟩, ⟨15, 17, 99, ptrTo, #[.int .u8 0, .bool false], #[.int .u8 (hiB s.ad), .bool (s.ads)], undef⟩] (by kernel_rfl) (by kernel_rfl) (by rfl) (by kernel_rfl) (fun _ => by kernel_rfl) (by simp) H fun β wy hwy => ?_); have H0 := H; replace H := H.next hwy; (simp only [swapL, swapO, List.find?_cons, List.find?_nil, Nat.reduceBEq, Nat.reduceAdd]); (repeat (first | (go_big_quiet_want; refine gate_qload _ _ rfl ?_; (first | (refine quiet_mload1 _ _ rfl _ _ rfl 2 H _ (.int _ _) rfl rfl (by decide +kernel) ?_) | (refine quiet_mload1 _ _ rfl _ _ rfl 2 H _ (.bool _) rfl rfl (by decide +kernel) ?_)); simp only [Act.put, List.setIfInBounds_toArray, List.set_cons_succ, List.set_cons_zero]; go_big_quiet_on) | go_big_quiet_step ((first | (go_at_call 173; (with_reducible exact Calls.regrown_of (split2_ct _ _ _ (by first | assumption | decide | omega) (by first | assumption | decide | omega)))) | fail)))); (refine wpQuiet_nil ?_); (refine ⟨⟨⟨⟨_, run_alloc_by _ rfl _⟩, ⟨rfl, by kernel_rfl, rfl, by kernel_rfl, fun _ => rfl⟩, trivial⟩, ⟨⟨_, run_alloc_by _ rfl _⟩, ⟨rfl, by kernel_rfl, rfl, by kernel_rfl, fun _ => rfl⟩, trivial⟩, trivial⟩, fun wx HM => ?_⟩); clear H; have H := HM; clear HM H0 hwy; (dsimp only [boxesL, List.cons_append, List.nil_append] at H); (try dsimp only [ptrTo]); (try generalize hq0 : β 14 = q0 at *); (try generalize hq1 : β 15 = q1 at *)
  go_wp2_with (first | (go_at_call 227; (with_reducible refine (and_ct _ _ _ _ _).mono ?_); rintro e w2 ⟨rfl, hB⟩; replace H := H.next hB; clear hB) | go_skip | (refine gate_load _ _ rfl ?_; first | (refine wpList_mloadA rfl 23 _ rfl _ rfl 1 H #[.int .u8 _, .bool _] rfl (by decide +kernel) (by kernel_rfl) ?_) | (refine wpList_mloadA rfl 23 _ rfl _ rfl 3 H #[.int .u8 _, .bool _] rfl (by decide +kernel) (by kernel_rfl) ?_) | (refine wpList_mload1 rfl _ _ rfl _ _ rfl 4 H _ (.bool _) rfl rfl (by decide +kernel) ?_)) | (refine gate_store _ _ _ rfl ?_; (first | (refine wpList_mstoreA rfl 23 _ _ rfl rfl _ rfl 0 H #[.int .u8 _, .bool _] _ rfl rfl (by kernel_rfl) (by kernel_rfl) (by kernel_rfl) ?_)); clear H; intro w1 H; simp only [List.set_cons_zero, List.set_cons_succ] at H) | (refine wpList_mnew rfl _ rfl H _ HZB.out ?_; clear H; intro _ w1 _ H) | fail)
  (try simp only [Act.put, List.setIfInBounds_toArray, List.set_cons_succ, List.set_cons_zero])
  (refine wp_region_mem 54 [⟨5, 6, 99, ptrTo, (bsC bs0), (bsC (putB s (bothV v (hiB s.ad)) (or b s.ads))), undef⟩] (by kernel_rfl) (by kernel_rfl) (by rfl) (by kernel_rfl) (fun _ => by kernel_rfl) (by simp) H fun β wy hwy => ?_); have H0 := H; replace H := H.next hwy; (simp only [swapL, swapO, List.find?_cons, List.find?_nil, Nat.reduceBEq, Nat.reduceAdd]); (repeat (first | (go_big_quiet_want; refine gate_qload _ _ rfl ?_; (first | (refine quiet_mloadA 23 _ rfl _ rfl 0 H #[.int .u8 _, .bool _] rfl (by decide +kernel) (by kernel_rfl) ?_)); simp only [Act.put, List.setIfInBounds_toArray, List.set_cons_succ, List.set_cons_zero]; go_big_quiet_on) | (go_big_quiet_want; refine gate_qload _ _ rfl ?_; (first | (refine quiet_mloadA _ _ rfl _ rfl 5 H _ rfl (by decide +kernel) (by kernel_rfl) ?_)); simp only [Act.put, List.setIfInBounds_toArray, List.set_cons_succ, List.set_cons_zero]; go_big_quiet_on) | go_big_quiet_step ((first | (go_at_call 182; (with_reducible exact Calls.regrown_of (put_ct _ _ _ _))) | fail)))); (refine wpQuiet_nil ?_); (refine ⟨⟨⟨⟨_, run_alloc_bus _ rfl _⟩, ⟨rfl, by kernel_rfl, rfl, by kernel_rfl, fun _ => rfl⟩, trivial⟩, trivial⟩, fun wx HM => ?_⟩); clear H; have H := HM; clear HM H0 hwy; (dsimp only [boxesL, List.cons_append, List.nil_append] at H); (try dsimp only [ptrTo]); (try generalize hq0 : β 5 = q0 at *)
  go_wp2_with (first | (go_at_call 122; (with_reducible refine (word_ct _ _ _ _ _ (by first | assumption | with_unfolding_all exact l0) (by first | assumption | with_unfolding_all exact l1) (by first | assumption | with_unfolding_all exact o1.1) (by first | assumption | with_unfolding_all exact o1.2)).mono ?_); rintro e w2 ⟨rfl, hB⟩; replace H := H.next hB; clear hB) | go_skip | (refine gate_load _ _ rfl ?_; first | (refine wpList_mloadA rfl 23 _ rfl _ rfl 1 H #[.int .u8 _, .bool _] rfl (by decide +kernel) (by kernel_rfl) ?_) | (refine wpList_mloadA rfl 23 _ rfl _ rfl 2 H #[.int .u8 _, .bool _] rfl (by decide +kernel) (by kernel_rfl) ?_) | (refine wpList_mloadA rfl 36 _ rfl _ rfl 0 H (bsC _) rfl (by decide +kernel) (by kernel_rfl) ?_)) | (refine gate_store _ _ _ rfl ?_; (first | (refine wpList_mstoreA rfl 36 _ _ rfl rfl _ rfl 4 H (bsC _) _ rfl rfl (by kernel_rfl) (by kernel_rfl) (by kernel_rfl) ?_) | (refine wpList_mstore rfl _ _ _ rfl rfl _ _ rfl 0 H _ _ rfl (.int _ _) rfl (by kernel_rfl) (of_decide_eq_true (by kernel_rfl)) (by kernel_rfl) (by first | with_reducible exact sb_Ad _ _) ?_) | (refine wpList_mstore rfl _ _ _ rfl rfl _ _ rfl 0 H _ _ rfl (.bool _) rfl (by kernel_rfl) (of_decide_eq_true (by kernel_rfl)) (by kernel_rfl) (by first | with_reducible exact sb_Sc _ _) ?_)); clear H; intro w1 H; simp only [List.set_cons_zero, List.set_cons_succ] at H) | fail)
  first | refine ret_mem1 rfl _ rfl 4 H _ rfl (by kernel_rfl) (by kernel_rfl) rfl ?_
  exact ⟨rfl, H.only (i := 6) rfl⟩
theorem putwith_ct (s : Wk) (v : Int) (b : Bool) (F : Fiw s) (g0 : 0 ≤ v) (g1 : v < 256) : CW 250 s v b (putWith s v b) := by
  cases e : s.cr
  · exact putwith_no s v b F g0 g1 e
  · exact putwith_yes s v b F g0 g1 e
set_option maxHeartbeats 2000000 in
theorem k_sta (s : Wk) (F : Fiw s) : CS 239 s (s, putB s s.av s.ab) := by
  intro R T w hR
  have FF := F
  obtain ⟨⟨a0, a1, x0, x1, y0, y1, s0, s1, p0, p1, q0, q1, cp, cq, pc0, pc1, op0, op1, ad0, ad1, d0, d1⟩, v0, v1⟩ := F
  have F := FF
  clear cp cq FF
  have HZB := Lib.hid alloc_by
  have HZU := Lib.hid alloc_bus
  have H := Mem.begin hR
  clear hR
  go_enter Tryz.func239, Tryz.ntmps239
  go_wp2_with (first | go_skip | (refine wpList_mnew rfl _ rfl H _ HZU.out ?_; clear H; intro _ w1 _ H) | fail)
  (try simp only [Act.put, List.setIfInBounds_toArray, List.set_cons_succ, List.set_cons_zero])
  (refine wp_region_tails_below 9 (by kernel_rfl) (by kernel_rfl) ?_); (simp only [List.take_succ_cons, List.take_zero, List.drop_succ_cons, List.drop_zero]); (repeat (first | (go_big_quiet_want; refine gate_qload _ _ rfl ?_; (first | (refine quiet_mload 23 _ rfl _ _ rfl 1 H _ #[.int .u8 _, .bool _] rfl (by decide +kernel) (by kernel_rfl) (part2 rfl rfl) ?_) | (refine quiet_mloadA 104 _ rfl _ rfl 1 H (wkC _) rfl (by decide +kernel) (by kernel_rfl) ?_)); simp only [Act.put, List.setIfInBounds_toArray, List.set_cons_succ, List.set_cons_zero]; go_big_quiet_on) | go_big_quiet_step ((first | (go_at_call 227; (with_reducible exact Calls.regrown_of (and_ct _ _ _ _ _))) | (go_at_call 182; (with_reducible exact Calls.regrown_of (put_ct _ _ _ _))) | fail)))); (refine wpQuiet_nil ?_); intro _ hw'; obtain ⟨⟨dq, osq⟩, hw''⟩ := hw'; (subst hw''); replace H := H.next (below_regrown _ dq osq)
  go_wp2_with (first | go_skip | (refine gate_store _ _ _ rfl ?_; (first | (refine wpList_mstoreA rfl 36 _ _ rfl rfl _ rfl 0 H (bsC _) _ rfl rfl (by kernel_rfl) (by kernel_rfl) (by kernel_rfl) ?_)); clear H; intro w1 H; simp only [List.set_cons_zero, List.set_cons_succ] at H) | fail)
  first | refine ret_mem1 rfl _ rfl 0 H _ rfl (by kernel_rfl) (by kernel_rfl) rfl ?_ | refine ret_mem1 rfl _ rfl 1 H _ rfl (by kernel_rfl) (by kernel_rfl) rfl ?_
  exact ⟨rfl, H.only (i := 1) rfl⟩

set_option maxHeartbeats 2000000 in
theorem k_stx (s : Wk) (F : Fiw s) : CS 240 s (s, putB s s.xv s.xb) := by
  intro R T w hR
  have FF := F
  obtain ⟨⟨a0, a1, x0, x1, y0, y1, s0, s1, p0, p1, q0, q1, cp, cq, pc0, pc1, op0, op1, ad0, ad1, d0, d1⟩, v0, v1⟩ := F
  have F := FF
  clear cp cq FF
  have HZB := Lib.hid alloc_by
  have HZU := Lib.hid alloc_bus
  have H := Mem.begin hR
  clear hR
  go_enter Tryz.func240, Tryz.ntmps240
  go_wp2_with (first | go_skip | (refine wpList_mnew rfl _ rfl H _ HZU.out ?_; clear H; intro _ w1 _ H) | fail)
  (try simp only [Act.put, List.setIfInBounds_toArray, List.set_cons_succ, List.set_cons_zero])
  (refine wp_region_tails_below 9 (by kernel_rfl) (by kernel_rfl) ?_); (simp only [List.take_succ_cons, List.take_zero, List.drop_succ_cons, List.drop_zero]); (repeat (first | (go_big_quiet_want; refine gate_qload _ _ rfl ?_; (first | (refine quiet_mload 23 _ rfl _ _ rfl 1 H _ #[.int .u8 _, .bool _] rfl (by decide +kernel) (by kernel_rfl) (part2 rfl rfl) ?_) | (refine quiet_mloadA 104 _ rfl _ rfl 1 H (wkC _) rfl (by decide +kernel) (by kernel_rfl) ?_)); simp only [Act.put, List.setIfInBounds_toArray, List.set_cons_succ, List.set_cons_zero]; go_big_quiet_on) | go_big_quiet_step ((first | (go_at_call 227; (with_reducible exact Calls.regrown_of (and_ct _ _ _ _ _))) | (go_at_call 182; (with_reducible exact Calls.regrown_of (put_ct _ _ _ _))) | fail)))); (refine wpQuiet_nil ?_); intro _ hw'; obtain ⟨⟨dq, osq⟩, hw''⟩ := hw'; (subst hw''); replace H := H.next (below_regrown _ dq osq)
  go_wp2_with (first | go_skip | (refine gate_store _ _ _ rfl ?_; (first | (refine wpList_mstoreA rfl 36 _ _ rfl rfl _ rfl 0 H (bsC _) _ rfl rfl (by kernel_rfl) (by kernel_rfl) (by kernel_rfl) ?_)); clear H; intro w1 H; simp only [List.set_cons_zero, List.set_cons_succ] at H) | fail)
  first | refine ret_mem1 rfl _ rfl 0 H _ rfl (by kernel_rfl) (by kernel_rfl) rfl ?_ | refine ret_mem1 rfl _ rfl 1 H _ rfl (by kernel_rfl) (by kernel_rfl) rfl ?_
  exact ⟨rfl, H.only (i := 1) rfl⟩

set_option maxHeartbeats 2000000 in
theorem k_sty (s : Wk) (F : Fiw s) : CS 241 s (s, putB s s.yv s.yb) := by
  intro R T w hR
  have FF := F
  obtain ⟨⟨a0, a1, x0, x1, y0, y1, s0, s1, p0, p1, q0, q1, cp, cq, pc0, pc1, op0, op1, ad0, ad1, d0, d1⟩, v0, v1⟩ := F
  have F := FF
  clear cp cq FF
  have HZB := Lib.hid alloc_by
  have HZU := Lib.hid alloc_bus
  have H := Mem.begin hR
  clear hR
  go_enter Tryz.func241, Tryz.ntmps241
  go_wp2_with (first | go_skip | (refine wpList_mnew rfl _ rfl H _ HZU.out ?_; clear H; intro _ w1 _ H) | fail)
  (try simp only [Act.put, List.setIfInBounds_toArray, List.set_cons_succ, List.set_cons_zero])
  (refine wp_region_tails_below 9 (by kernel_rfl) (by kernel_rfl) ?_); (simp only [List.take_succ_cons, List.take_zero, List.drop_succ_cons, List.drop_zero]); (repeat (first | (go_big_quiet_want; refine gate_qload _ _ rfl ?_; (first | (refine quiet_mload 23 _ rfl _ _ rfl 1 H _ #[.int .u8 _, .bool _] rfl (by decide +kernel) (by kernel_rfl) (part2 rfl rfl) ?_) | (refine quiet_mloadA 104 _ rfl _ rfl 1 H (wkC _) rfl (by decide +kernel) (by kernel_rfl) ?_)); simp only [Act.put, List.setIfInBounds_toArray, List.set_cons_succ, List.set_cons_zero]; go_big_quiet_on) | go_big_quiet_step ((first | (go_at_call 227; (with_reducible exact Calls.regrown_of (and_ct _ _ _ _ _))) | (go_at_call 182; (with_reducible exact Calls.regrown_of (put_ct _ _ _ _))) | fail)))); (refine wpQuiet_nil ?_); intro _ hw'; obtain ⟨⟨dq, osq⟩, hw''⟩ := hw'; (subst hw''); replace H := H.next (below_regrown _ dq osq)
  go_wp2_with (first | go_skip | (refine gate_store _ _ _ rfl ?_; (first | (refine wpList_mstoreA rfl 36 _ _ rfl rfl _ rfl 0 H (bsC _) _ rfl rfl (by kernel_rfl) (by kernel_rfl) (by kernel_rfl) ?_)); clear H; intro w1 H; simp only [List.set_cons_zero, List.set_cons_succ] at H) | fail)
  first | refine ret_mem1 rfl _ rfl 0 H _ rfl (by kernel_rfl) (by kernel_rfl) rfl ?_ | refine ret_mem1 rfl _ rfl 1 H _ rfl (by kernel_rfl) (by kernel_rfl) rfl ?_
  exact ⟨rfl, H.only (i := 1) rfl⟩

set_option maxHeartbeats 2000000 in
theorem k_sax (s : Wk) (F : Fiw s) : CS 242 s (s, putB s (bothV s.av s.xv) (s.ab || s.xb)) := by
  intro R T w hR
  have FF := F
  obtain ⟨⟨a0, a1, x0, x1, y0, y1, s0, s1, p0, p1, q0, q1, cp, cq, pc0, pc1, op0, op1, ad0, ad1, d0, d1⟩, v0, v1⟩ := F
  have F := FF
  clear cp cq FF
  have HZB := Lib.hid alloc_by
  have HZU := Lib.hid alloc_bus
  have H := Mem.begin hR
  clear hR
  go_enter Tryz.func242, Tryz.ntmps242
  go_wp2_with (first | go_skip | (refine wpList_mnew rfl _ rfl H _ HZU.out ?_; clear H; intro _ w1 _ H) | fail)
  (try simp only [Act.put, List.setIfInBounds_toArray, List.set_cons_succ, List.set_cons_zero])
  (refine wp_region_tails_below 15 (by kernel_rfl) (by kernel_rfl) ?_); (simp only [List.take_succ_cons, List.take_zero, List.drop_succ_cons, List.drop_zero]); (repeat (first | (go_big_quiet_want; refine gate_qload _ _ rfl ?_; (first | (refine quiet_mload 23 _ rfl _ _ rfl 1 H _ #[.int .u8 _, .bool _] rfl (by decide +kernel) (by kernel_rfl) (part2 rfl rfl) ?_) | (refine quiet_mloadA 104 _ rfl _ rfl 1 H (wkC _) rfl (by decide +kernel) (by kernel_rfl) ?_)); simp only [Act.put, List.setIfInBounds_toArray, List.set_cons_succ, List.set_cons_zero]; go_big_quiet_on) | go_big_quiet_step ((first | (go_at_call 227; (with_reducible exact Calls.regrown_of (and_ct _ _ _ _ _))) | (go_at_call 182; (with_reducible exact Calls.regrown_of (put_ct _ _ _ _))) | fail)))); (refine wpQuiet_nil ?_); intro _ hw'; obtain ⟨⟨dq, osq⟩, hw''⟩ := hw'; (subst hw''); replace H := H.next (below_regrown _ dq osq)
  go_wp2_with (first | go_skip | (refine gate_store _ _ _ rfl ?_; (first | (refine wpList_mstoreA rfl 36 _ _ rfl rfl _ rfl 0 H (bsC _) _ rfl rfl (by kernel_rfl) (by kernel_rfl) (by kernel_rfl) ?_)); clear H; intro w1 H; simp only [List.set_cons_zero, List.set_cons_succ] at H) | fail)
  first | refine ret_mem1 rfl _ rfl 0 H _ rfl (by kernel_rfl) (by kernel_rfl) rfl ?_ | refine ret_mem1 rfl _ rfl 1 H _ rfl (by kernel_rfl) (by kernel_rfl) rfl ?_
  exact ⟨rfl, H.only (i := 1) rfl⟩

set_option maxHeartbeats 2000000 in
theorem k_shx (s : Wk) (F : Fiw s) : CS 244 s (s, putWith s s.xv s.xb) := by
  intro R T w hR
  have FF := F
  obtain ⟨⟨a0, a1, x0, x1, y0, y1, s0, s1, p0, p1, q0, q1, cp, cq, pc0, pc1, op0, op1, ad0, ad1, d0, d1⟩, v0, v1⟩ := F
  have F := FF
  clear cp cq FF
  have o8 := bothV_le s.av s.xv a0 a1 x0 x1
  have HZB := Lib.hid alloc_by
  have HZU := Lib.hid alloc_bus
  have H := Mem.begin hR
  clear hR
  go_enter Tryz.func244, Tryz.ntmps244
  go_wp2_with (first | (go_at_call 250; obtain ⟨T0, hT⟩ := H.get (i := 1) rfl; (with_reducible refine Calls.mono (putwith_ct _ _ _ F (by first | assumption | (with_unfolding_all exact o8.1) | (with_unfolding_all exact a0) | (with_unfolding_all exact x0) | (with_unfolding_all exact y0)) (by first | assumption | (with_unfolding_all exact o8.2) | (with_unfolding_all exact a1) | (with_unfolding_all exact x1) | (with_unfolding_all exact y1)) _ _ _ hT) ?_); rintro e w2 ⟨rfl, hm⟩; replace H := H.call (i := 1) rfl hm; clear hm hT; simp only [List.set_cons_zero, List.set_cons_succ] at H) | go_skip | (refine gate_load _ _ rfl ?_; first | (refine wpList_mload rfl 23 _ rfl _ _ rfl 1 H _ #[.int .u8 _, .bool _] rfl (by decide +kernel) (by kernel_rfl) (part2 rfl rfl) ?_)) | (refine gate_store _ _ _ rfl ?_; (first | (refine wpList_mstoreA rfl 36 _ _ rfl rfl _ rfl 0 H (bsC _) _ rfl rfl (by kernel_rfl) (by kernel_rfl) (by kernel_rfl) ?_)); clear H; intro w1 H; simp only [List.set_cons_zero, List.set_cons_succ] at H) | (refine wpList_mnew rfl _ rfl H _ HZU.out ?_; clear H; intro _ w1 _ H) | fail)
  first | refine ret_mem1 rfl _ rfl 0 H _ rfl (by kernel_rfl) (by kernel_rfl) rfl ?_ | refine ret_mem1 rfl _ rfl 1 H _ rfl (by kernel_rfl) (by kernel_rfl) rfl ?_
  exact ⟨rfl, H.only (i := 1) rfl⟩

set_option maxHeartbeats 2000000 in
theorem k_shy (s : Wk) (F : Fiw s) : CS 245 s (s, putWith s s.yv s.yb) := by
  intro R T w hR
  have FF := F
  obtain ⟨⟨a0, a1, x0, x1, y0, y1, s0, s1, p0, p1, q0, q1, cp, cq, pc0, pc1, op0, op1, ad0, ad1, d0, d1⟩, v0, v1⟩ := F
  have F := FF
  clear cp cq FF
  have o8 := bothV_le s.av s.xv a0 a1 x0 x1
  have HZB := Lib.hid alloc_by
  have HZU := Lib.hid alloc_bus
  have H := Mem.begin hR
  clear hR
  go_enter Tryz.func245, Tryz.ntmps245
  go_wp2_with (first | (go_at_call 250; obtain ⟨T0, hT⟩ := H.get (i := 1) rfl; (with_reducible refine Calls.mono (putwith_ct _ _ _ F (by first | assumption | (with_unfolding_all exact o8.1) | (with_unfolding_all exact a0) | (with_unfolding_all exact x0) | (with_unfolding_all exact y0)) (by first | assumption | (with_unfolding_all exact o8.2) | (with_unfolding_all exact a1) | (with_unfolding_all exact x1) | (with_unfolding_all exact y1)) _ _ _ hT) ?_); rintro e w2 ⟨rfl, hm⟩; replace H := H.call (i := 1) rfl hm; clear hm hT; simp only [List.set_cons_zero, List.set_cons_succ] at H) | go_skip | (refine gate_load _ _ rfl ?_; first | (refine wpList_mload rfl 23 _ rfl _ _ rfl 1 H _ #[.int .u8 _, .bool _] rfl (by decide +kernel) (by kernel_rfl) (part2 rfl rfl) ?_)) | (refine gate_store _ _ _ rfl ?_; (first | (refine wpList_mstoreA rfl 36 _ _ rfl rfl _ rfl 0 H (bsC _) _ rfl rfl (by kernel_rfl) (by kernel_rfl) (by kernel_rfl) ?_)); clear H; intro w1 H; simp only [List.set_cons_zero, List.set_cons_succ] at H) | (refine wpList_mnew rfl _ rfl H _ HZU.out ?_; clear H; intro _ w1 _ H) | fail)
  first | refine ret_mem1 rfl _ rfl 0 H _ rfl (by kernel_rfl) (by kernel_rfl) rfl ?_ | refine ret_mem1 rfl _ rfl 1 H _ rfl (by kernel_rfl) (by kernel_rfl) rfl ?_
  exact ⟨rfl, H.only (i := 1) rfl⟩

set_option maxHeartbeats 2000000 in
theorem k_sha (s : Wk) (F : Fiw s) : CS 243 s (s, putWith s (bothV s.av s.xv) (s.ab || s.xb)) := by
  intro R T w hR
  have FF := F
  obtain ⟨⟨a0, a1, x0, x1, y0, y1, s0, s1, p0, p1, q0, q1, cp, cq, pc0, pc1, op0, op1, ad0, ad1, d0, d1⟩, v0, v1⟩ := F
  have F := FF
  clear cp cq FF
  have o8 := bothV_le s.av s.xv a0 a1 x0 x1
  have HZB := Lib.hid alloc_by
  have HZU := Lib.hid alloc_bus
  have H := Mem.begin hR
  clear hR
  go_enter Tryz.func243, Tryz.ntmps243
  go_wp2_with (first | go_skip | (refine wpList_mnew rfl _ rfl H _ HZU.out ?_; clear H; intro _ w1 _ H) | fail)
  (try simp only [Act.put, List.setIfInBounds_toArray, List.set_cons_succ, List.set_cons_zero])
  (refine wp_region_tails_below 12 (by kernel_rfl) (by kernel_rfl) ?_); (simp only [List.take_succ_cons, List.take_zero, List.drop_succ_cons, List.drop_zero]); (repeat (first | (go_big_quiet_want; refine gate_qload _ _ rfl ?_; (first | (refine quiet_mload 23 _ rfl _ _ rfl 1 H _ #[.int .u8 _, .bool _] rfl (by decide +kernel) (by kernel_rfl) (part2 rfl rfl) ?_)); simp only [Act.put, List.setIfInBounds_toArray, List.set_cons_succ, List.set_cons_zero]; go_big_quiet_on) | go_big_quiet_step ((first | (go_at_call 227; (with_reducible exact Calls.regrown_of (and_ct _ _ _ _ _))) | fail)))); (refine wpQuiet_nil ?_); intro _ hw'; obtain ⟨⟨dq, osq⟩, hw''⟩ := hw'; (subst hw''); replace H := H.next (below_regrown _ dq osq)
  go_wp2_with (first | (go_at_call 250; obtain ⟨T0, hT⟩ := H.get (i := 1) rfl; (with_reducible refine Calls.mono (putwith_ct _ _ _ F (by first | assumption | (with_unfolding_all exact o8.1) | (with_unfolding_all exact a0) | (with_unfolding_all exact x0) | (with_unfolding_all exact y0)) (by first | assumption | (with_unfolding_all exact o8.2) | (with_unfolding_all exact a1) | (with_unfolding_all exact x1) | (with_unfolding_all exact y1)) _ _ _ hT) ?_); rintro e w2 ⟨rfl, hm⟩; replace H := H.call (i := 1) rfl hm; clear hm hT; simp only [List.set_cons_zero, List.set_cons_succ] at H) | go_skip | (refine gate_store _ _ _ rfl ?_; (first | (refine wpList_mstoreA rfl 36 _ _ rfl rfl _ rfl 0 H (bsC _) _ rfl rfl (by kernel_rfl) (by kernel_rfl) (by kernel_rfl) ?_)); clear H; intro w1 H; simp only [List.set_cons_zero, List.set_cons_succ] at H) | fail)
  first | refine ret_mem1 rfl _ rfl 0 H _ rfl (by kernel_rfl) (by kernel_rfl) rfl ?_ | refine ret_mem1 rfl _ rfl 1 H _ rfl (by kernel_rfl) (by kernel_rfl) rfl ?_
  exact ⟨rfl, H.only (i := 1) rfl⟩

set_option maxHeartbeats 2000000 in
theorem k_tas (s : Wk) (F : Fiw s) : CS 246 s ({ s with sv := bothV s.av s.xv, sb := s.ab || s.xb }, putWith s (bothV s.av s.xv) (s.ab || s.xb)) := by
  intro R T w hR
  have FF := F
  obtain ⟨⟨a0, a1, x0, x1, y0, y1, s0, s1, p0, p1, q0, q1, cp, cq, pc0, pc1, op0, op1, ad0, ad1, d0, d1⟩, v0, v1⟩ := F
  have F := FF
  clear cp cq FF
  have o8 := bothV_le s.av s.xv a0 a1 x0 x1
  have G : Fiw (s.uS (bits .and .u8 s.av s.xv) (s.ab || s.xb)) := Fit.setS F o8
  have HZB := Lib.hid alloc_by
  have HZU := Lib.hid alloc_bus
  have H := Mem.begin hR
  clear hR
  go_enter Tryz.func246, Tryz.ntmps246
  go_wp2_with (first | go_skip | (refine wpList_mnew rfl _ rfl H _ HZU.out ?_; clear H; intro _ w1 _ H) | fail)
  (try simp only [Act.put, List.setIfInBounds_toArray, List.set_cons_succ, List.set_cons_zero])
  (refine wp_region_tails_below 12 (by kernel_rfl) (by kernel_rfl) ?_); (simp only [List.take_succ_cons, List.take_zero, List.drop_succ_cons, List.drop_zero]); (repeat (first | (go_big_quiet_want; refine gate_qload _ _ rfl ?_; (first | (refine quiet_mload 23 _ rfl _ _ rfl 1 H _ #[.int .u8 _, .bool _] rfl (by decide +kernel) (by kernel_rfl) (part2 rfl rfl) ?_)); simp only [Act.put, List.setIfInBounds_toArray, List.set_cons_succ, List.set_cons_zero]; go_big_quiet_on) | go_big_quiet_step ((first | (go_at_call 227; (with_reducible exact Calls.regrown_of (and_ct _ _ _ _ _))) | fail)))); (refine wpQuiet_nil ?_); intro _ hw'; obtain ⟨⟨dq, osq⟩, hw''⟩ := hw'; (subst hw''); replace H := H.next (below_regrown _ dq osq)
  go_wp2_with (first | (go_at_call 250; obtain ⟨T0, hT⟩ := H.get (i := 1) rfl; (with_reducible refine Calls.mono (putwith_ct _ _ _ G (by first | assumption | (with_unfolding_all exact o8.1) | (with_unfolding_all exact a0) | (with_unfolding_all exact x0) | (with_unfolding_all exact y0)) (by first | assumption | (with_unfolding_all exact o8.2) | (with_unfolding_all exact a1) | (with_unfolding_all exact x1) | (with_unfolding_all exact y1)) _ _ _ hT) ?_); rintro e w2 ⟨rfl, hm⟩; replace H := H.call (i := 1) rfl hm; clear hm hT; simp only [List.set_cons_zero, List.set_cons_succ] at H) | go_skip | (refine gate_load _ _ rfl ?_; first | (refine wpList_mload rfl 23 _ rfl _ _ rfl 1 H _ #[.int .u8 _, .bool _] rfl (by decide +kernel) (by kernel_rfl) (part2 rfl rfl) ?_)) | (refine gate_store _ _ _ rfl ?_; (first | (refine wpList_mstore rfl 23 _ _ rfl rfl _ _ rfl 1 H _ _ rfl (.agg #[.int .u8 _, .bool _]) rfl (by kernel_rfl) (of_decide_eq_true (by kernel_rfl)) (by kernel_rfl) (by first | with_reducible exact st_S _ _ _) ?_) | (refine wpList_mstoreA rfl 36 _ _ rfl rfl _ rfl 0 H (bsC _) _ rfl rfl (by kernel_rfl) (by kernel_rfl) (by kernel_rfl) ?_)); clear H; intro w1 H; simp only [List.set_cons_zero, List.set_cons_succ] at H) | fail)
  first | refine ret_mem1 rfl _ rfl 0 H _ rfl (by kernel_rfl) (by kernel_rfl) rfl ?_ | refine ret_mem1 rfl _ rfl 1 H _ rfl (by kernel_rfl) (by kernel_rfl) rfl ?_
  exact ⟨rfl, H.only (i := 1) rfl⟩

end Go.Proofs.YtbonamhinnhlnaaGreatDoor
