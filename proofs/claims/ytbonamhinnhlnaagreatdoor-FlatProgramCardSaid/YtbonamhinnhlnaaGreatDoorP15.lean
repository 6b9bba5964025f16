/-
  Several texts in one: what is read and written by the functions on the way to the statements. Conditions stand in each theorem.
-/
import Derived.Test.YtbonamhinnhlnaaGreatDoorP10
import Derived.Test.YtbonamhinnhlnaaGreatDoorP14
import Derived.Test.YtbonamhinnhlnaaGreatDoorP12
namespace Go.Proofs.YtbonamhinnhlnaaGreatDoor
open Go.RowKit
set_option linter.unusedSimpArgs false
set_option linter.unusedVariables false
set_option maxRecDepth 20000

set_option maxHeartbeats 2000000 in
theorem atpc_ct (s : Wk) : CA 82 s (atPC s) := by
  intro w
  have HZB := Lib.hid alloc_by
  have HZU := Lib.hid alloc_bus
  have H := Mem.start w
  go_enter Tryz.func82, Tryz.ntmps82
  go_wp2_with (first | (refine wpList_mboxA rfl _ _ rfl H _ rfl ?_; clear H; intro _ w1 _ H) | go_skip | (refine gate_load _ _ rfl ?_; first | (refine wpList_mload1 rfl _ _ rfl _ _ rfl 1 H _ (.int _ _) rfl rfl (by decide +kernel) ?_) | (refine wpList_mload1 rfl _ _ rfl _ _ rfl 1 H _ (.bool _) rfl rfl (by decide +kernel) ?_)) | (refine gate_store _ _ _ rfl ?_; (first | (refine wpList_mstoreA rfl 36 _ _ rfl rfl _ rfl 0 H (bsC _) _ rfl rfl (by kernel_rfl) (by kernel_rfl) (by kernel_rfl) ?_)); clear H; intro w1 H; simp only [List.set_cons_zero, List.set_cons_succ] at H) | (refine wpList_mnew rfl _ rfl H _ HZU.out ?_; clear H; intro _ w1 _ H) | fail)
  refine ret_mem1 rfl _ rfl 0 H _ rfl (by kernel_rfl) (by kernel_rfl) rfl ?_
  exact ⟨rfl, H.toBelow⟩

set_option maxHeartbeats 2000000 in
theorem ataddr_ct (s : Wk) : CA 105 s (atAddr s) := by
  intro w
  have HZB := Lib.hid alloc_by
  have HZU := Lib.hid alloc_bus
  have H := Mem.start w
  go_enter Tryz.func105, Tryz.ntmps105
  go_wp2_with (first | (refine wpList_mboxA rfl _ _ rfl H _ rfl ?_; clear H; intro _ w1 _ H) | go_skip | (refine gate_load _ _ rfl ?_; first | (refine wpList_mload1 rfl _ _ rfl _ _ rfl 1 H _ (.int _ _) rfl rfl (by decide +kernel) ?_) | (refine wpList_mload1 rfl _ _ rfl _ _ rfl 1 H _ (.bool _) rfl rfl (by decide +kernel) ?_)) | (refine gate_store _ _ _ rfl ?_; (first | (refine wpList_mstoreA rfl 36 _ _ rfl rfl _ rfl 0 H (bsC _) _ rfl rfl (by kernel_rfl) (by kernel_rfl) (by kernel_rfl) ?_)); clear H; intro w1 H; simp only [List.set_cons_zero, List.set_cons_succ] at H) | (refine wpList_mnew rfl _ rfl H _ HZU.out ?_; clear H; intro _ w1 _ H) | fail)
  refine ret_mem1 rfl _ rfl 0 H _ rfl (by kernel_rfl) (by kernel_rfl) rfl ?_
  exact ⟨rfl, H.toBelow⟩

set_option maxHeartbeats 2000000 in
theorem atend_ct (s : Wk) : CA 109 s (atEnd s) := by
  intro w
  have HZB := Lib.hid alloc_by
  have HZU := Lib.hid alloc_bus
  have H := Mem.start w
  go_enter Tryz.func109, Tryz.ntmps109
  go_wp2_with (first | (refine wpList_mboxA rfl _ _ rfl H _ rfl ?_; clear H; intro _ w1 _ H) | go_skip | (refine gate_store _ _ _ rfl ?_; (first | (refine wpList_mstoreA rfl 36 _ _ rfl rfl _ rfl 0 H (bsC _) _ rfl rfl (by kernel_rfl) (by kernel_rfl) (by kernel_rfl) ?_)); clear H; intro w1 H; simp only [List.set_cons_zero, List.set_cons_succ] at H) | (refine wpList_mnew rfl _ rfl H _ HZU.out ?_; clear H; intro _ w1 _ H) | fail)
  refine ret_mem1 rfl _ rfl 0 H _ rfl (by kernel_rfl) (by kernel_rfl) rfl ?_
  exact ⟨rfl, H.toBelow⟩

set_option maxHeartbeats 2000000 in
theorem rest_ct (s : Wk) : CM 124 s (s) := by
  intro R T w hR
  have HZB := Lib.hid alloc_by
  have HZU := Lib.hid alloc_bus
  have H := Mem.begin hR
  clear hR
  go_enter Tryz.func124, Tryz.ntmps124
  go_wp2
  (try simp only [IntKind.wrap_u16, IntKind.wrap_u8] at H)
  all_goals (first | refine fall rfl rfl ?_ | refine fallr rfl rfl ?_)
  all_goals (refine ⟨rfl, ?_⟩; first | exact H.only (i := 0) rfl)

set_option maxHeartbeats 2000000 in
theorem on_ct (s : Wk) : CM 118 s (onW s) := by
  intro R T w hR
  have HZB := Lib.hid alloc_by
  have HZU := Lib.hid alloc_bus
  have H := Mem.begin hR
  clear hR
  go_enter Tryz.func118, Tryz.ntmps118
  go_wp2_with (first | go_skip | (refine gate_load _ _ rfl ?_; first | (refine wpList_mload1 rfl _ _ rfl _ _ rfl 0 H _ (.int _ _) rfl rfl (by decide +kernel) ?_)) | (refine gate_store _ _ _ rfl ?_; (first | (refine wpList_mstore rfl _ _ _ rfl rfl _ _ rfl 0 H _ _ rfl (.int _ _) rfl (by kernel_rfl) (of_decide_eq_true (by kernel_rfl)) (by kernel_rfl) (by first | with_reducible exact st_PC _ _) ?_)); clear H; intro w1 H; simp only [List.set_cons_zero, List.set_cons_succ] at H) | fail)
  (try simp only [IntKind.wrap_u16, IntKind.wrap_u8] at H)
  all_goals (first | refine fall rfl rfl ?_ | refine fallr rfl rfl ?_)
  all_goals (refine ⟨rfl, ?_⟩; first | exact H.only (i := 0) rfl)

set_option maxHeartbeats 2000000 in
theorem keep_ct (s : Wk) : CM 121 s (keepW s) := by
  intro R T w hR
  have HZB := Lib.hid alloc_by
  have HZU := Lib.hid alloc_bus
  have H := Mem.begin hR
  clear hR
  go_enter Tryz.func121, Tryz.ntmps121
  go_wp2_with (first | go_skip | (refine gate_load _ _ rfl ?_; first | (refine wpList_mload rfl 23 _ rfl _ _ rfl 0 H _ #[.int .u8 _, .bool _] rfl (by decide +kernel) (by kernel_rfl) (part2 rfl rfl) ?_)) | (refine gate_store _ _ _ rfl ?_; (first | (refine wpList_mstore rfl 23 _ _ rfl rfl _ _ rfl 0 H _ _ rfl (.agg #[.int .u8 _, .bool _]) rfl (by kernel_rfl) (of_decide_eq_true (by kernel_rfl)) (by kernel_rfl) (by first | with_reducible exact st_D _ _ _) ?_)); clear H; intro w1 H; simp only [List.set_cons_zero, List.set_cons_succ] at H) | fail)
  (try simp only [IntKind.wrap_u16, IntKind.wrap_u8] at H)
  all_goals (first | refine fall rfl rfl ?_ | refine fallr rfl rfl ?_)
  all_goals (refine ⟨rfl, ?_⟩; first | exact H.only (i := 0) rfl)

set_option maxHeartbeats 2000000 in
theorem keepon_ct (s : Wk) : CM 103 s (onW (keepW s)) := by
  intro R T w hR
  have HZB := Lib.hid alloc_by
  have HZU := Lib.hid alloc_bus
  have H := Mem.begin hR
  clear hR
  go_enter Tryz.func103, Tryz.ntmps103
  go_wp2_with (first | (go_at_call 121; obtain ⟨T0, hT⟩ := H.get (i := 0) rfl; (with_reducible refine Calls.mono (keep_ct _ _ _ _ hT) ?_); rintro e w2 ⟨rfl, hm⟩; replace H := H.call (i := 0) rfl hm; clear hm hT; simp only [List.set_cons_zero, List.set_cons_succ] at H) | (go_at_call 118; obtain ⟨T0, hT⟩ := H.get (i := 0) rfl; (with_reducible refine Calls.mono (on_ct _ _ _ _ hT) ?_); rintro e w2 ⟨rfl, hm⟩; replace H := H.call (i := 0) rfl hm; clear hm hT; simp only [List.set_cons_zero, List.set_cons_succ] at H) | go_skip | fail)
  (try simp only [IntKind.wrap_u16, IntKind.wrap_u8] at H)
  all_goals (first | refine fall rfl rfl ?_ | refine fallr rfl rfl ?_)
  all_goals (refine ⟨rfl, ?_⟩; first | exact H.only (i := 0) rfl)

set_option maxHeartbeats 2000000 in
theorem jam_ct (s : Wk) : CM 110 s (doM .jam s) := by
  intro R T w hR
  have HZB := Lib.hid alloc_by
  have HZU := Lib.hid alloc_bus
  have H := Mem.begin hR
  clear hR
  go_enter Tryz.func110, Tryz.ntmps110
  go_wp2_with (first | go_skip | (refine gate_load _ _ rfl ?_; first | (refine wpList_mload1 rfl _ _ rfl _ _ rfl 0 H _ (.int _ _) rfl rfl (by decide +kernel) ?_)) | (refine gate_store _ _ _ rfl ?_; (first | (refine wpList_mstore rfl _ _ _ rfl rfl _ _ rfl 0 H _ _ rfl (.int _ _) rfl (by kernel_rfl) (of_decide_eq_true (by kernel_rfl)) (by kernel_rfl) (by first | with_reducible exact st_Nx _ _) ?_) | (refine wpList_mstore rfl _ _ _ rfl rfl _ _ rfl 0 H _ _ rfl (.bool _) rfl (by kernel_rfl) (of_decide_eq_true (by kernel_rfl)) (by kernel_rfl) (by first | with_reducible exact st_Jam _ _) ?_)); clear H; intro w1 H; simp only [List.set_cons_zero, List.set_cons_succ] at H) | fail)
  (try simp only [IntKind.wrap_u16, IntKind.wrap_u8] at H)
  all_goals (first | refine fall rfl rfl ?_ | refine fallr rfl rfl ?_)
  all_goals (refine ⟨rfl, ?_⟩; first | exact H.only (i := 0) rfl)

set_option maxHeartbeats 2000000 in
theorem pushed_ct (s : Wk) : CM 126 s (pushedW s) := by
  intro R T w hR
  have HZB := Lib.hid alloc_by
  have HZU := Lib.hid alloc_bus
  have H := Mem.begin hR
  clear hR
  go_enter Tryz.func126, Tryz.ntmps126
  go_wp2_with (first | go_skip | (refine gate_load _ _ rfl ?_; first | (refine wpList_mload1 rfl _ _ rfl _ _ rfl 0 H _ (.int _ _) rfl rfl (by decide +kernel) ?_)) | (refine gate_store _ _ _ rfl ?_; (first | (refine wpList_mstore rfl _ _ _ rfl rfl _ _ rfl 0 H _ _ rfl (.int _ _) rfl (by kernel_rfl) (of_decide_eq_true (by kernel_rfl)) (by kernel_rfl) (by first | with_reducible exact st_SV _ _) ?_)); clear H; intro w1 H; simp only [List.set_cons_zero, List.set_cons_succ] at H) | fail)
  (try simp only [IntKind.wrap_u16, IntKind.wrap_u8] at H)
  all_goals (first | refine fall rfl rfl ?_ | refine fallr rfl rfl ?_)
  all_goals (refine ⟨rfl, ?_⟩; first | exact H.only (i := 0) rfl)

set_option maxHeartbeats 2000000 in
theorem pulled_ct (s : Wk) : CM 128 s (pulledW s) := by
  intro R T w hR
  have HZB := Lib.hid alloc_by
  have HZU := Lib.hid alloc_bus
  have H := Mem.begin hR
  clear hR
  go_enter Tryz.func128, Tryz.ntmps128
  go_wp2_with (first | go_skip | (refine gate_load _ _ rfl ?_; first | (refine wpList_mload1 rfl _ _ rfl _ _ rfl 0 H _ (.int _ _) rfl rfl (by decide +kernel) ?_)) | (refine gate_store _ _ _ rfl ?_; (first | (refine wpList_mstore rfl _ _ _ rfl rfl _ _ rfl 0 H _ _ rfl (.int _ _) rfl (by kernel_rfl) (of_decide_eq_true (by kernel_rfl)) (by kernel_rfl) (by first | with_reducible exact st_SV _ _) ?_)); clear H; intro w1 H; simp only [List.set_cons_zero, List.set_cons_succ] at H) | fail)
  (try simp only [IntKind.wrap_u16, IntKind.wrap_u8] at H)
  all_goals (first | refine fall rfl rfl ?_ | refine fallr rfl rfl ?_)
  all_goals (refine ⟨rfl, ?_⟩; first | exact H.only (i := 0) rfl)

set_option maxHeartbeats 2000000 in
theorem pulldata_ct (s : Wk) : CM 129 s (pulledW (keepW s)) := by
  intro R T w hR
  have HZB := Lib.hid alloc_by
  have HZU := Lib.hid alloc_bus
  have H := Mem.begin hR
  clear hR
  go_enter Tryz.func129, Tryz.ntmps129
  go_wp2_with (first | (go_at_call 121; obtain ⟨T0, hT⟩ := H.get (i := 0) rfl; (with_reducible refine Calls.mono (keep_ct _ _ _ _ hT) ?_); rintro e w2 ⟨rfl, hm⟩; replace H := H.call (i := 0) rfl hm; clear hm hT; simp only [List.set_cons_zero, List.set_cons_succ] at H) | (go_at_call 128; obtain ⟨T0, hT⟩ := H.get (i := 0) rfl; (with_reducible refine Calls.mono (pulled_ct _ _ _ _ hT) ?_); rintro e w2 ⟨rfl, hm⟩; replace H := H.call (i := 0) rfl hm; clear hm hT; simp only [List.set_cons_zero, List.set_cons_succ] at H) | go_skip | fail)
  (try simp only [IntKind.wrap_u16, IntKind.wrap_u8] at H)
  all_goals (first | refine fall rfl rfl ?_ | refine fallr rfl rfl ?_)
  all_goals (refine ⟨rfl, ?_⟩; first | exact H.only (i := 0) rfl)

set_option maxHeartbeats 2000000 in
theorem leave_ct (s : Wk) : CM 102 s (doM .leave s) := by
  intro R T w hR
  have HZB := Lib.hid alloc_by
  have HZU := Lib.hid alloc_bus
  have H := Mem.begin hR
  clear hR
  go_enter Tryz.func102, Tryz.ntmps102
  go_wp2_with (first | go_skip | (refine gate_load _ _ rfl ?_; first | (refine wpList_mload1 rfl _ _ rfl _ _ rfl 0 H _ (.int _ _) rfl rfl (by decide +kernel) ?_) | (refine wpList_mload1 rfl _ _ rfl _ _ rfl 0 H _ (.bool _) rfl rfl (by decide +kernel) ?_)) | (refine gate_store _ _ _ rfl ?_; (first | (refine wpList_mstore rfl _ _ _ rfl rfl _ _ rfl 0 H _ _ rfl (.int _ _) rfl (by kernel_rfl) (of_decide_eq_true (by kernel_rfl)) (by kernel_rfl) (by first | with_reducible exact st_PC _ _) ?_) | (refine wpList_mstore rfl _ _ _ rfl rfl _ _ rfl 0 H _ _ rfl (.bool _) rfl (by kernel_rfl) (of_decide_eq_true (by kernel_rfl)) (by kernel_rfl) (by first | with_reducible exact st_PCS _ _) ?_)); clear H; intro w1 H; simp only [List.set_cons_zero, List.set_cons_succ] at H) | fail)
  (try simp only [IntKind.wrap_u16, IntKind.wrap_u8] at H)
  all_goals (first | refine fall rfl rfl ?_ | refine fallr rfl rfl ?_)
  all_goals (refine ⟨rfl, ?_⟩; first | (refine (H.only (i := 0) rfl).asW ?_; clear H; simp_all [IntKind.wrap_u16, IntKind.wrap_u8, Wk.uA, Wk.uX, Wk.uY, Wk.uS, Wk.uSV, Wk.uF, Wk.uPC, Wk.uPCS, Wk.uOp, Wk.uT, Wk.uAd, Wk.uAdS, Wk.uD, Wk.uCr, Wk.uIntr, Wk.uNmi, Wk.uGot, Wk.uPend, Wk.uCtl, Wk.uJam, Wk.uNx, Wk.uIs, doM, onW, keepW, jumpW, pushedW, pulledW, addW, reachW, begunW, beginW, branchW, aimW, crossW, loadA, loadX, loadY, flagW, cmpW, endW, hearW, turnW]; done))

set_option maxHeartbeats 2000000 in
theorem pullflags_ct (s : Wk) (v0 : 0 ≤ s.v) (v1 : s.v < 256) : CM 130 s (doM .pullFlags s) := by
  intro R T w hR
  have HZB := Lib.hid alloc_by
  have HZU := Lib.hid alloc_bus
  have H := Mem.begin hR
  clear hR
  go_enter Tryz.func130, Tryz.ntmps130
  go_wp2_with (first | (go_at_call 175; (with_reducible refine (apull_ct _ _ _ (by assumption) (by assumption)).mono ?_); rintro e w2 ⟨rfl, hB⟩; replace H := H.next hB; clear hB) | (go_at_call 128; obtain ⟨T0, hT⟩ := H.get (i := 0) rfl; (with_reducible refine Calls.mono (pulled_ct _ _ _ _ hT) ?_); rintro e w2 ⟨rfl, hm⟩; replace H := H.call (i := 0) rfl hm; clear hm hT; simp only [List.set_cons_zero, List.set_cons_succ] at H) | go_skip | (refine gate_load _ _ rfl ?_; first | (refine wpList_mload rfl 23 _ rfl _ _ rfl 0 H _ #[.int .u8 _, .bool _] rfl (by decide +kernel) (by kernel_rfl) (part2 rfl rfl) ?_)) | (refine gate_store _ _ _ rfl ?_; (first | (refine wpList_mstore rfl 25 _ _ rfl rfl _ _ rfl 0 H _ _ rfl (.agg #[.int .u8 _, .int .u8 _]) rfl (by kernel_rfl) (of_decide_eq_true (by kernel_rfl)) (by kernel_rfl) (by first | with_reducible exact st_F _ _ _) ?_)); clear H; intro w1 H; simp only [List.set_cons_zero, List.set_cons_succ] at H) | fail)
  (try simp only [IntKind.wrap_u16, IntKind.wrap_u8] at H)
  all_goals (first | refine fall rfl rfl ?_ | refine fallr rfl rfl ?_)
  all_goals (refine ⟨rfl, ?_⟩; first | exact H.only (i := 0) rfl)

set_option maxHeartbeats 2000000 in
theorem keepzero_ct (s : Wk) : CM 144 s (doM .keepInZero s) := by
  intro R T w hR
  have HZB := Lib.hid alloc_by
  have HZU := Lib.hid alloc_bus
  have H := Mem.begin hR
  clear hR
  go_enter Tryz.func144, Tryz.ntmps144
  go_wp2_with (first | (go_at_call 121; obtain ⟨T0, hT⟩ := H.get (i := 0) rfl; (with_reducible refine Calls.mono (keep_ct _ _ _ _ hT) ?_); rintro e w2 ⟨rfl, hm⟩; replace H := H.call (i := 0) rfl hm; clear hm hT; simp only [List.set_cons_zero, List.set_cons_succ] at H) | go_skip | (refine gate_load _ _ rfl ?_; first | (refine wpList_mload1 rfl _ _ rfl _ _ rfl 0 H _ (.int _ _) rfl rfl (by decide +kernel) ?_)) | (refine gate_store _ _ _ rfl ?_; (first | (refine wpList_mstore rfl _ _ _ rfl rfl _ _ rfl 0 H _ _ rfl (.int _ _) rfl (by kernel_rfl) (of_decide_eq_true (by kernel_rfl)) (by kernel_rfl) (by first | with_reducible exact st_Ad _ _) ?_)); clear H; intro w1 H; simp only [List.set_cons_zero, List.set_cons_succ] at H) | fail)
  (try simp only [IntKind.wrap_u16, IntKind.wrap_u8] at H)
  all_goals (first | refine fall rfl rfl ?_ | refine fallr rfl rfl ?_)
  all_goals (refine ⟨rfl, ?_⟩; first | exact H.only (i := 0) rfl)

set_option maxHeartbeats 2000000 in
theorem breakon_ct (s : Wk) : CM 131 s (doM .breakOn s) := by
  intro R T w hR
  have HZB := Lib.hid alloc_by
  have HZU := Lib.hid alloc_bus
  have H := Mem.begin hR
  clear hR
  go_enter Tryz.func131, Tryz.ntmps131
  go_wp2_with (first | (go_at_call 118; obtain ⟨T0, hT⟩ := H.get (i := 0) rfl; (with_reducible refine Calls.mono (on_ct _ _ _ _ hT) ?_); rintro e w2 ⟨rfl, hm⟩; replace H := H.call (i := 0) rfl hm; clear hm hT; simp only [List.set_cons_zero, List.set_cons_succ] at H) | go_skip | (refine gate_load _ _ rfl ?_; first | (refine wpList_mload1 rfl _ _ rfl _ _ rfl 0 H _ (.int _ _) rfl rfl (by decide +kernel) ?_)) | fail)
  (try simp only [IntKind.wrap_u16, IntKind.wrap_u8] at H)
  all_goals (first | refine fall rfl rfl ?_ | refine fallr rfl rfl ?_)
  all_goals (refine ⟨rfl, ?_⟩; first | (refine (H.only (i := 0) rfl).asW ?_; clear H; simp_all [IntKind.wrap_u16, IntKind.wrap_u8, Wk.uA, Wk.uX, Wk.uY, Wk.uS, Wk.uSV, Wk.uF, Wk.uPC, Wk.uPCS, Wk.uOp, Wk.uT, Wk.uAd, Wk.uAdS, Wk.uD, Wk.uCr, Wk.uIntr, Wk.uNmi, Wk.uGot, Wk.uPend, Wk.uCtl, Wk.uJam, Wk.uNx, Wk.uIs, doM, onW, keepW, jumpW, pushedW, pulledW, addW, reachW, begunW, beginW, branchW, aimW, crossW, loadA, loadX, loadY, flagW, cmpW, endW, hearW, turnW]; done))

set_option maxHeartbeats 2000000 in
theorem put_ct (s : Wk) (v : Int) (b : Bool) (w : World) : Calls Tryz.prog 182 #[.agg (wkC s), .agg #[.int .u8 v, .bool b]] w fun e w' => e = .returned (.agg (bsC (putB s v b))) ∧ Below w.heap.size w w' := by
  have HZB := Lib.hid alloc_by
  have HZU := Lib.hid alloc_bus
  have H := Mem.start w
  go_enter Tryz.func182, Tryz.ntmps182
  go_wp2_with (first | (refine wpList_mboxA rfl _ _ rfl H _ rfl ?_; clear H; intro _ w1 _ H) | go_skip | (refine gate_load _ _ rfl ?_; first | (refine wpList_mloadA rfl 23 _ rfl _ rfl 1 H #[.int .u8 _, .bool _] rfl (by decide +kernel) (by kernel_rfl) ?_) | (refine wpList_mload1 rfl _ _ rfl _ _ rfl 2 H _ (.int _ _) rfl rfl (by decide +kernel) ?_) | (refine wpList_mload1 rfl _ _ rfl _ _ rfl 2 H _ (.bool _) rfl rfl (by decide +kernel) ?_)) | (refine gate_store _ _ _ rfl ?_; (first | (refine wpList_mstoreA rfl 36 _ _ rfl rfl _ rfl 0 H (bsC _) _ rfl rfl (by kernel_rfl) (by kernel_rfl) (by kernel_rfl) ?_)); clear H; intro w1 H; simp only [List.set_cons_zero, List.set_cons_succ] at H) | (refine wpList_mnew rfl _ rfl H _ HZU.out ?_; clear H; intro _ w1 _ H) | fail)
  refine ret_mem1 rfl _ rfl 0 H _ rfl (by kernel_rfl) (by kernel_rfl) rfl ?_
  exact ⟨rfl, H.toBelow⟩
end Go.Proofs.YtbonamhinnhlnaaGreatDoor
namespace Go.Proofs.YtbonamhinnhlnaaGreatDoor
open Go.RowKit
set_option linter.unusedSimpArgs false
set_option linter.unusedVariables false
set_option maxRecDepth 20000

set_option maxHeartbeats 2000000 in
theorem more_ct (v c : Int) (b : Bool) (w : World) : Calls Tryz.prog 183 #[.agg #[.int .u8 v, .bool b], .int .u8 c] w fun e w' => e = .returned (.agg #[.int .u8 ((v + c) % 256), .bool b]) ∧ Below w.heap.size w w' := by
  have HZB := Lib.hid alloc_by
  have HZU := Lib.hid alloc_bus
  have H := Mem.start w
  go_enter Tryz.func183, Tryz.ntmps183
  go_wp2_with (first | (refine wpList_mrow rfl _ _ _ rfl H _ (by simp only [List.map_toArray, List.map_cons, List.map_nil, Act.eval]; rfl) _ _ (build_by1 _ _) ?_; clear H; intro _ w1 H) | (go_at_call 218; (with_reducible refine (of1_ct _ _ _ H 0 rfl).mono ?_); rintro e w2 ⟨rfl, hB⟩; replace H := H.next hB; clear hB) | (refine wpList_mboxA rfl _ _ rfl H _ rfl ?_; clear H; intro _ w1 _ H) | go_skip | (refine gate_load _ _ rfl ?_; first | (refine wpList_mloadA rfl 23 _ rfl _ rfl 1 H #[.int .u8 _, .bool _] rfl (by decide +kernel) (by kernel_rfl) ?_) | (refine wpList_mload1 rfl _ _ rfl _ _ rfl 1 H _ (.int _ _) rfl rfl (by decide +kernel) ?_)) | (refine gate_store _ _ _ rfl ?_; (first | (refine wpList_mstoreA rfl 23 _ _ rfl rfl _ rfl 1 H #[.int .u8 _, .bool _] _ rfl rfl (by kernel_rfl) (by kernel_rfl) (by kernel_rfl) ?_)); clear H; intro w1 H; simp only [List.set_cons_zero, List.set_cons_succ] at H) | (refine wpList_mnew rfl _ rfl H _ HZB.out ?_; clear H; intro _ w1 _ H) | fail)
  (try simp only [IntKind.wrap_u8] at H)
  first | refine ret_mem1 rfl _ rfl 0 H _ rfl (by kernel_rfl) (by kernel_rfl) rfl ?_ | refine ret_mem1 rfl _ rfl 1 H _ rfl (by kernel_rfl) (by kernel_rfl) rfl ?_ | refine ret_mem1 rfl _ rfl 2 H _ rfl (by kernel_rfl) (by kernel_rfl) rfl ?_
  exact ⟨rfl, H.toBelow⟩

set_option maxHeartbeats 2000000 in
theorem set_ct (s : Wk) (f v : Int) (F : Fiw s) (f0 : 0 ≤ f) (f1 : f < 256) : ∀ (R : Nat) (T : TypeId) (w : World), w.heap[R]? = some (.cells (wkC s) T) → Calls Tryz.prog 177 #[.pointer (some ⟨R, 0, none⟩), .int .u8 f, .int .u8 v] w fun e w' => e = .returned (.tuple #[]) ∧ Mem w.heap.size [R] w w' [(R, wkC (flagW s f v))] := by
  intro R T w hR
  obtain ⟨⟨a0, a1, x0, x1, y0, y1, s0, s1, p0, p1, q0, q1, cp, cq, pc0, pc1, op0, op1, ad0, ad1, d0, d1⟩, v0, v1⟩ := F
  clear cp cq
  have H := Mem.begin hR
  clear hR
  go_enter Tryz.func177, Tryz.ntmps177
  go_wp2_with fail
  (refine wp_region_tails_below 10 (by kernel_rfl) (by kernel_rfl) ?_); (simp only [List.take_succ_cons, List.take_zero, List.drop_succ_cons, List.drop_zero]); (repeat (first | (go_big_quiet_want; refine gate_qload _ _ rfl ?_; (first | (refine quiet_mload 25 _ rfl _ _ rfl 0 H _ #[.int .u8 _, .int .u8 _] rfl (by decide +kernel) (by kernel_rfl) (part2 rfl rfl) ?_)); simp only [Act.put, List.setIfInBounds_toArray, List.set_cons_succ, List.set_cons_zero]; go_big_quiet_on) | go_big_quiet_step ((first | (go_at_call 172; (with_reducible exact Calls.regrown_of (low_ct _ _))) | (go_at_call 219; (with_reducible exact Calls.regrown_of (aset_ct _ _ _ _ _ _ rfl _ (by first | assumption | decide | omega) (by first | assumption | decide | omega) (by first | assumption | decide | omega) (by first | assumption | decide | omega) (by first | assumption | decide | omega) (by first | assumption | decide | omega)))) | fail)))); (refine wpQuiet_nil ?_); intro _ hw'; obtain ⟨⟨dq, osq⟩, hw''⟩ := hw'; (subst hw''); replace H := H.next (below_regrown _ dq osq)
  go_wp2_with (first | go_skip | (refine gate_store _ _ _ rfl ?_; (first | (refine wpList_mstore rfl 25 _ _ rfl rfl _ _ rfl 0 H _ _ rfl (.agg #[.int .u8 _, .int .u8 _]) rfl (by kernel_rfl) (of_decide_eq_true (by kernel_rfl)) (by kernel_rfl) (by first | with_reducible exact st_F _ _ _) ?_)); clear H; intro w1 H; simp only [List.set_cons_zero, List.set_cons_succ] at H) | fail)
  (try simp only [IntKind.wrap_u16, IntKind.wrap_u8] at H)
  all_goals (first | refine fall rfl rfl ?_ | refine fallr rfl rfl ?_)
  all_goals (refine ⟨rfl, ?_⟩; first | exact H.only (i := 0) rfl)

set_option maxHeartbeats 2000000 in
theorem loadA_ct (s : Wk) (v : Int) (b : Bool) (F : Fiw s) (g0 : 0 ≤ v) (g1 : v < 256) : ∀ (R : Nat) (T : TypeId) (w : World), w.heap[R]? = some (.cells (wkC s) T) → Calls Tryz.prog 178 #[.pointer (some ⟨R, 0, none⟩), .pointer (some ⟨R, 0, none⟩), .agg #[.int .u8 v, .bool b]] w fun e w' => e = .returned (.tuple #[]) ∧ Mem w.heap.size [R] w w' [(R, wkC (loadA s v b))] := by
  intro R T w hR
  obtain ⟨⟨a0, a1, x0, x1, y0, y1, s0, s1, p0, p1, q0, q1, cp, cq, pc0, pc1, op0, op1, ad0, ad1, d0, d1⟩, v0, v1⟩ := F
  clear cp cq
  have H := Mem.begin hR
  clear hR
  go_enter Tryz.func178, Tryz.ntmps178
  go_wp2_with (first | (refine wpList_mboxA rfl _ _ rfl H _ rfl ?_; clear H; intro _ w1 _ H) | go_skip | (refine gate_load _ _ rfl ?_; first | (refine wpList_mloadA rfl 23 _ rfl _ rfl 0 H #[.int .u8 _, .bool _] rfl (by decide +kernel) (by kernel_rfl) ?_)) | (refine gate_store _ _ _ rfl ?_; (first | (refine wpList_mstore rfl 23 _ _ rfl rfl _ _ rfl 1 H _ _ rfl (.agg #[.int .u8 _, .bool _]) rfl (by kernel_rfl) (of_decide_eq_true (by kernel_rfl)) (by kernel_rfl) (by first | with_reducible exact st_A _ _ _) ?_)); clear H; intro w1 H; simp only [List.set_cons_zero, List.set_cons_succ] at H) | fail)
  (try simp only [Act.put, List.setIfInBounds_toArray, List.set_cons_succ, List.set_cons_zero])
  (refine wp_region_tails_below 8 (by kernel_rfl) (by kernel_rfl) ?_); (simp only [List.take_succ_cons, List.take_zero, List.drop_succ_cons, List.drop_zero]); (repeat (first | (go_big_quiet_want; refine gate_qload _ _ rfl ?_; (first | (refine quiet_mloadA 23 _ rfl _ rfl 0 H #[.int .u8 _, .bool _] rfl (by decide +kernel) (by kernel_rfl) ?_) | (refine quiet_mload 25 _ rfl _ _ rfl 1 H _ #[.int .u8 _, .int .u8 _] rfl (by decide +kernel) (by kernel_rfl) (part2 rfl rfl) ?_)); simp only [Act.put, List.setIfInBounds_toArray, List.set_cons_succ, List.set_cons_zero]; go_big_quiet_on) | go_big_quiet_step ((first | (go_at_call 220; (with_reducible exact Calls.regrown_of (anz_ct _ _ _ _ _ (by first | assumption | with_unfolding_all exact p0 | decide | omega) (by first | assumption | with_unfolding_all exact p1 | decide | omega) (by first | assumption | with_unfolding_all exact q0 | decide | omega) (by first | assumption | with_unfolding_all exact q1 | decide | omega) (by first | assumption | decide | omega) (by first | assumption | decide | omega)))) | fail)))); (refine wpQuiet_nil ?_); intro _ hw'; obtain ⟨⟨dq, osq⟩, hw''⟩ := hw'; (subst hw''); replace H := H.next (below_regrown _ dq osq)
  go_wp2_with (first | go_skip | (refine gate_store _ _ _ rfl ?_; (first | (refine wpList_mstore rfl 25 _ _ rfl rfl _ _ rfl 1 H _ _ rfl (.agg #[.int .u8 _, .int .u8 _]) rfl (by kernel_rfl) (of_decide_eq_true (by kernel_rfl)) (by kernel_rfl) (by first | with_reducible exact st_F _ _ _) ?_)); clear H; intro w1 H; simp only [List.set_cons_zero, List.set_cons_succ] at H) | fail)
  (try simp only [IntKind.wrap_u16, IntKind.wrap_u8] at H)
  all_goals (first | refine fall rfl rfl ?_ | refine fallr rfl rfl ?_)
  all_goals (refine ⟨rfl, ?_⟩; first | exact H.only (i := 1) rfl)

set_option maxHeartbeats 2000000 in
theorem loadX_ct (s : Wk) (v : Int) (b : Bool) (F : Fiw s) (g0 : 0 ≤ v) (g1 : v < 256) : ∀ (R : Nat) (T : TypeId) (w : World), w.heap[R]? = some (.cells (wkC s) T) → Calls Tryz.prog 178 #[.pointer (some ⟨R, 0, none⟩), .pointer (some ⟨R, 2, none⟩), .agg #[.int .u8 v, .bool b]] w fun e w' => e = .returned (.tuple #[]) ∧ Mem w.heap.size [R] w w' [(R, wkC (loadX s v b))] := by
  intro R T w hR
  obtain ⟨⟨a0, a1, x0, x1, y0, y1, s0, s1, p0, p1, q0, q1, cp, cq, pc0, pc1, op0, op1, ad0, ad1, d0, d1⟩, v0, v1⟩ := F
  clear cp cq
  have H := Mem.begin hR
  clear hR
  go_enter Tryz.func178, Tryz.ntmps178
  go_wp2_with (first | (refine wpList_mboxA rfl _ _ rfl H _ rfl ?_; clear H; intro _ w1 _ H) | go_skip | (refine gate_load _ _ rfl ?_; first | (refine wpList_mloadA rfl 23 _ rfl _ rfl 0 H #[.int .u8 _, .bool _] rfl (by decide +kernel) (by kernel_rfl) ?_)) | (refine gate_store _ _ _ rfl ?_; (first | (refine wpList_mstore rfl 23 _ _ rfl rfl _ _ rfl 1 H _ _ rfl (.agg #[.int .u8 _, .bool _]) rfl (by kernel_rfl) (of_decide_eq_true (by kernel_rfl)) (by kernel_rfl) (by first | with_reducible exact st_X _ _ _) ?_)); clear H; intro w1 H; simp only [List.set_cons_zero, List.set_cons_succ] at H) | fail)
  (try simp only [Act.put, List.setIfInBounds_toArray, List.set_cons_succ, List.set_cons_zero])
  (refine wp_region_tails_below 8 (by kernel_rfl) (by kernel_rfl) ?_); (simp only [List.take_succ_cons, List.take_zero, List.drop_succ_cons, List.drop_zero]); (repeat (first | (go_big_quiet_want; refine gate_qload _ _ rfl ?_; (first | (refine quiet_mloadA 23 _ rfl _ rfl 0 H #[.int .u8 _, .bool _] rfl (by decide +kernel) (by kernel_rfl) ?_) | (refine quiet_mload 25 _ rfl _ _ rfl 1 H _ #[.int .u8 _, .int .u8 _] rfl (by decide +kernel) (by kernel_rfl) (part2 rfl rfl) ?_)); simp only [Act.put, List.setIfInBounds_toArray, List.set_cons_succ, List.set_cons_zero]; go_big_quiet_on) | go_big_quiet_step ((first | (go_at_call 220; (with_reducible exact Calls.regrown_of (anz_ct _ _ _ _ _ (by first | assumption | with_unfolding_all exact p0 | decide | omega) (by first | assumption | with_unfolding_all exact p1 | decide | omega) (by first | assumption | with_unfolding_all exact q0 | decide | omega) (by first | assumption | with_unfolding_all exact q1 | decide | omega) (by first | assumption | decide | omega) (by first | assumption | decide | omega)))) | fail)))); (refine wpQuiet_nil ?_); intro _ hw'; obtain ⟨⟨dq, osq⟩, hw''⟩ := hw'; (subst hw''); replace H := H.next (below_regrown _ dq osq)
  go_wp2_with (first | go_skip | (refine gate_store _ _ _ rfl ?_; (first | (refine wpList_mstore rfl 25 _ _ rfl rfl _ _ rfl 1 H _ _ rfl (.agg #[.int .u8 _, .int .u8 _]) rfl (by kernel_rfl) (of_decide_eq_true (by kernel_rfl)) (by kernel_rfl) (by first | with_reducible exact st_F _ _ _) ?_)); clear H; intro w1 H; simp only [List.set_cons_zero, List.set_cons_succ] at H) | fail)
  (try simp only [IntKind.wrap_u16, IntKind.wrap_u8] at H)
  all_goals (first | refine fall rfl rfl ?_ | refine fallr rfl rfl ?_)
  all_goals (refine ⟨rfl, ?_⟩; first | exact H.only (i := 1) rfl)

set_option maxHeartbeats 2000000 in
theorem loadY_ct (s : Wk) (v : Int) (b : Bool) (F : Fiw s) (g0 : 0 ≤ v) (g1 : v < 256) : ∀ (R : Nat) (T : TypeId) (w : World), w.heap[R]? = some (.cells (wkC s) T) → Calls Tryz.prog 178 #[.pointer (some ⟨R, 0, none⟩), .pointer (some ⟨R, 4, none⟩), .agg #[.int .u8 v, .bool b]] w fun e w' => e = .returned (.tuple #[]) ∧ Mem w.heap.size [R] w w' [(R, wkC (loadY s v b))] := by
  intro R T w hR
  obtain ⟨⟨a0, a1, x0, x1, y0, y1, s0, s1, p0, p1, q0, q1, cp, cq, pc0, pc1, op0, op1, ad0, ad1, d0, d1⟩, v0, v1⟩ := F
  clear cp cq
  have H := Mem.begin hR
  clear hR
  go_enter Tryz.func178, Tryz.ntmps178
  go_wp2_with (first | (refine wpList_mboxA rfl _ _ rfl H _ rfl ?_; clear H; intro _ w1 _ H) | go_skip | (refine gate_load _ _ rfl ?_; first | (refine wpList_mloadA rfl 23 _ rfl _ rfl 0 H #[.int .u8 _, .bool _] rfl (by decide +kernel) (by kernel_rfl) ?_)) | (refine gate_store _ _ _ rfl ?_; (first | (refine wpList_mstore rfl 23 _ _ rfl rfl _ _ rfl 1 H _ _ rfl (.agg #[.int .u8 _, .bool _]) rfl (by kernel_rfl) (of_decide_eq_true (by kernel_rfl)) (by kernel_rfl) (by first | with_reducible exact st_Y _ _ _) ?_)); clear H; intro w1 H; simp only [List.set_cons_zero, List.set_cons_succ] at H) | fail)
  (try simp only [Act.put, List.setIfInBounds_toArray, List.set_cons_succ, List.set_cons_zero])
  (refine wp_region_tails_below 8 (by kernel_rfl) (by kernel_rfl) ?_); (simp only [List.take_succ_cons, List.take_zero, List.drop_succ_cons, List.drop_zero]); (repeat (first | (go_big_quiet_want; refine gate_qload _ _ rfl ?_; (first | (refine quiet_mloadA 23 _ rfl _ rfl 0 H #[.int .u8 _, .bool _] rfl (by decide +kernel) (by kernel_rfl) ?_) | (refine quiet_mload 25 _ rfl _ _ rfl 1 H _ #[.int .u8 _, .int .u8 _] rfl (by decide +kernel) (by kernel_rfl) (part2 rfl rfl) ?_)); simp only [Act.put, List.setIfInBounds_toArray, List.set_cons_succ, List.set_cons_zero]; go_big_quiet_on) | go_big_quiet_step ((first | (go_at_call 220; (with_reducible exact Calls.regrown_of (anz_ct _ _ _ _ _ (by first | assumption | with_unfolding_all exact p0 | decide | omega) (by first | assumption | with_unfolding_all exact p1 | decide | omega) (by first | assumption | with_unfolding_all exact q0 | decide | omega) (by first | assumption | with_unfolding_all exact q1 | decide | omega) (by first | assumption | decide | omega) (by first | assumption | decide | omega)))) | fail)))); (refine wpQuiet_nil ?_); intro _ hw'; obtain ⟨⟨dq, osq⟩, hw''⟩ := hw'; (subst hw''); replace H := H.next (below_regrown _ dq osq)
  go_wp2_with (first | go_skip | (refine gate_store _ _ _ rfl ?_; (first | (refine wpList_mstore rfl 25 _ _ rfl rfl _ _ rfl 1 H _ _ rfl (.agg #[.int .u8 _, .int .u8 _]) rfl (by kernel_rfl) (of_decide_eq_true (by kernel_rfl)) (by kernel_rfl) (by first | with_reducible exact st_F _ _ _) ?_)); clear H; intro w1 H; simp only [List.set_cons_zero, List.set_cons_succ] at H) | fail)
  (try simp only [IntKind.wrap_u16, IntKind.wrap_u8] at H)
  all_goals (first | refine fall rfl rfl ?_ | refine fallr rfl rfl ?_)
  all_goals (refine ⟨rfl, ?_⟩; first | exact H.only (i := 1) rfl)

set_option maxHeartbeats 2000000 in
theorem loadB_ct (s : Wk) (v : Int) (b : Bool) (u : Int) (c : Bool) (F : Fiw s) (g0 : 0 ≤ v) (g1 : v < 256) (n : Nat) (X : List Nat) (W : World) (R Q : Nat) (w : World) (H0 : Mem n X W w [(Q, #[.int .u8 u, .bool c]), (R, wkC s)]) : Calls Tryz.prog 178 #[.pointer (some ⟨R, 0, none⟩), .pointer (some ⟨Q, 0, none⟩), .agg #[.int .u8 v, .bool b]] w fun e w' => e = .returned (.tuple #[]) ∧ Mem n X W w' [(Q, #[.int .u8 v, .bool b]), (R, wkC { s with p := nzP s.p v, ps := nzS s.ps b })] := by
  obtain ⟨⟨a0, a1, x0, x1, y0, y1, s0, s1, p0, p1, q0, q1, cp, cq, pc0, pc1, op0, op1, ad0, ad1, d0, d1⟩, v0, v1⟩ := F
  clear cp cq
  have H := H0
  clear H0
  go_enter Tryz.func178, Tryz.ntmps178
  go_wp2_with (first | (refine wpList_mboxA rfl _ _ rfl H _ rfl ?_; clear H; intro _ w1 _ H) | go_skip | (refine gate_load _ _ rfl ?_; first | (refine wpList_mloadA rfl 23 _ rfl _ rfl 0 H #[.int .u8 _, .bool _] rfl (by decide +kernel) (by kernel_rfl) ?_)) | (refine gate_store _ _ _ rfl ?_; (first | (refine wpList_mstoreA rfl 23 _ _ rfl rfl _ rfl 1 H #[.int .u8 _, .bool _] _ rfl rfl (by kernel_rfl) (by kernel_rfl) (by kernel_rfl) ?_)); clear H; intro w1 H; simp only [List.set_cons_zero, List.set_cons_succ] at H) | fail)
  (try simp only [Act.put, List.setIfInBounds_toArray, List.set_cons_succ, List.set_cons_zero])
  (refine wp_region_tails_below 8 (by kernel_rfl) (by kernel_rfl) ?_); (simp only [List.take_succ_cons, List.take_zero, List.drop_succ_cons, List.drop_zero]); (repeat (first | (go_big_quiet_want; refine gate_qload _ _ rfl ?_; (first | (refine quiet_mloadA 23 _ rfl _ rfl 0 H #[.int .u8 _, .bool _] rfl (by decide +kernel) (by kernel_rfl) ?_) | (refine quiet_mload 25 _ rfl _ _ rfl 2 H _ #[.int .u8 _, .int .u8 _] rfl (by decide +kernel) (by kernel_rfl) (part2 rfl rfl) ?_)); simp only [Act.put, List.setIfInBounds_toArray, List.set_cons_succ, List.set_cons_zero]; go_big_quiet_on) | go_big_quiet_step ((first | (go_at_call 220; (with_reducible exact Calls.regrown_of (anz_ct _ _ _ _ _ (by first | assumption | decide | omega) (by first | assumption | decide | omega) (by first | assumption | decide | omega) (by first | assumption | decide | omega) (by first | assumption | decide | omega) (by first | assumption | decide | omega)))) | fail)))); (refine wpQuiet_nil ?_); intro _ hw'; obtain ⟨⟨dq, osq⟩, hw''⟩ := hw'; (subst hw''); replace H := H.next (below_regrown _ dq osq)
  go_wp2_with (first | go_skip | (refine gate_store _ _ _ rfl ?_; (first | (refine wpList_mstore rfl 25 _ _ rfl rfl _ _ rfl 2 H _ _ rfl (.agg #[.int .u8 _, .int .u8 _]) rfl (by kernel_rfl) (of_decide_eq_true (by kernel_rfl)) (by kernel_rfl) (by first | with_reducible exact st_F _ _ _) ?_)); clear H; intro w1 H; simp only [List.set_cons_zero, List.set_cons_succ] at H) | fail)
  refine fall rfl rfl ?_
  exact ⟨rfl, H.sub (List.Sublist.cons _ (List.Sublist.refl _))⟩
set_option maxHeartbeats 2000000 in
theorem atvec_ct (s : Wk) : CA 133 s (atVec s) := by
  intro w
  have HZB := Lib.hid alloc_by
  have HZU := Lib.hid alloc_bus
  have H := Mem.start w
  go_enter Tryz.func133, Tryz.ntmps133
  go_wp2_with (first | (refine wpList_mboxA rfl _ _ rfl H _ rfl ?_; clear H; intro _ w1 _ H) | go_skip | (refine gate_load _ _ rfl ?_; first | (refine wpList_mload1 rfl _ _ rfl _ _ rfl 1 H _ (.int _ _) rfl rfl (by decide +kernel) ?_)) | (refine gate_store _ _ _ rfl ?_; (first | (refine wpList_mstoreA rfl 36 _ _ rfl rfl _ rfl 0 H (bsC _) _ rfl rfl (by kernel_rfl) (by kernel_rfl) (by kernel_rfl) ?_)); clear H; intro w1 H; simp only [List.set_cons_zero, List.set_cons_succ] at H) | (refine wpList_mnew rfl _ rfl H _ HZU.out ?_; clear H; intro _ w1 _ H) | fail)
  all_goals (refine ret_mem1 rfl _ rfl 0 H _ rfl (by kernel_rfl) (by kernel_rfl) rfl ?_)
  all_goals (refine ⟨?_, H.toBelow⟩; simp_all [atVec, vecV, bsC]; done)

end Go.Proofs.YtbonamhinnhlnaaGreatDoor
