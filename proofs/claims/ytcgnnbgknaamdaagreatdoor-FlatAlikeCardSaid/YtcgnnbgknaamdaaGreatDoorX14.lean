/-
  Several texts in one: what is read and written by the functions on the way to the statements. Conditions stand in each theorem.
-/
import Derived.Test.YtcgnnbgknaamdaaGreatDoorX08
import Derived.Test.YtcgnnbgknaamdaaGreatDoorX13
namespace Go.Proofs.YtcgnnbgknaamdaaGreatDoor
open Go.RowKit
set_option linter.unusedSimpArgs false
set_option linter.unusedVariables false
set_option maxRecDepth 20000

set_option maxHeartbeats 2000000 in
theorem atpc_ct (s : Wk) : CA 38 s (atPC s) := by
  intro w
  have HZB := Lib.hid alloc_by
  have HZU := Lib.hid alloc_bus
  have H := Mem.start w
  go_enter Tryz.func38, Tryz.ntmps38
  go_wp2_with (first | (refine wpList_mboxA rfl _ _ rfl H _ rfl ?_; clear H; intro _ w1 _ H) | go_skip | (refine gate_load _ _ rfl ?_; first | (refine wpList_mload1 rfl _ _ rfl _ _ rfl 1 H _ (.int _ _) rfl rfl (by decide +kernel) ?_) | (refine wpList_mload1 rfl _ _ rfl _ _ rfl 1 H _ (.bool _) rfl rfl (by decide +kernel) ?_)) | (refine gate_store _ _ _ rfl ?_; (first | (refine wpList_mstoreA rfl 46 _ _ rfl rfl _ rfl 0 H (bsC _) _ rfl rfl (by kernel_rfl) (by kernel_rfl) (by kernel_rfl) ?_)); clear H; intro w1 H; simp only [List.set_cons_zero, List.set_cons_succ] at H) | (refine wpList_mnew rfl _ rfl H _ HZU.out ?_; clear H; intro _ w1 _ H) | fail)
  refine ret_mem1 rfl _ rfl 0 H _ rfl (by kernel_rfl) (by kernel_rfl) rfl ?_
  exact ⟨rfl, H.toBelow⟩

set_option maxHeartbeats 2000000 in
theorem ataddr_ct (s : Wk) : CA 53 s (atAddr s) := by
  intro w
  have HZB := Lib.hid alloc_by
  have HZU := Lib.hid alloc_bus
  have H := Mem.start w
  go_enter Tryz.func53, Tryz.ntmps53
  go_wp2_with (first | (refine wpList_mboxA rfl _ _ rfl H _ rfl ?_; clear H; intro _ w1 _ H) | go_skip | (refine gate_load _ _ rfl ?_; first | (refine wpList_mload1 rfl _ _ rfl _ _ rfl 1 H _ (.int _ _) rfl rfl (by decide +kernel) ?_) | (refine wpList_mload1 rfl _ _ rfl _ _ rfl 1 H _ (.bool _) rfl rfl (by decide +kernel) ?_)) | (refine gate_store _ _ _ rfl ?_; (first | (refine wpList_mstoreA rfl 46 _ _ rfl rfl _ rfl 0 H (bsC _) _ rfl rfl (by kernel_rfl) (by kernel_rfl) (by kernel_rfl) ?_)); clear H; intro w1 H; simp only [List.set_cons_zero, List.set_cons_succ] at H) | (refine wpList_mnew rfl _ rfl H _ HZU.out ?_; clear H; intro _ w1 _ H) | fail)
  refine ret_mem1 rfl _ rfl 0 H _ rfl (by kernel_rfl) (by kernel_rfl) rfl ?_
  exact ⟨rfl, H.toBelow⟩

set_option maxHeartbeats 2000000 in
theorem atend_ct (s : Wk) : CA 57 s (atEnd s) := by
  intro w
  have HZB := Lib.hid alloc_by
  have HZU := Lib.hid alloc_bus
  have H := Mem.start w
  go_enter Tryz.func57, Tryz.ntmps57
  go_wp2_with (first | (refine wpList_mboxA rfl _ _ rfl H _ rfl ?_; clear H; intro _ w1 _ H) | go_skip | (refine gate_store _ _ _ rfl ?_; (first | (refine wpList_mstoreA rfl 46 _ _ rfl rfl _ rfl 0 H (bsC _) _ rfl rfl (by kernel_rfl) (by kernel_rfl) (by kernel_rfl) ?_)); clear H; intro w1 H; simp only [List.set_cons_zero, List.set_cons_succ] at H) | (refine wpList_mnew rfl _ rfl H _ HZU.out ?_; clear H; intro _ w1 _ H) | fail)
  refine ret_mem1 rfl _ rfl 0 H _ rfl (by kernel_rfl) (by kernel_rfl) rfl ?_
  exact ⟨rfl, H.toBelow⟩

set_option maxHeartbeats 2000000 in
theorem rest_ct (s : Wk) : CM 71 s (s) := by
  intro R T w hR
  have HZB := Lib.hid alloc_by
  have HZU := Lib.hid alloc_bus
  have H := Mem.begin hR
  clear hR
  go_enter Tryz.func71, Tryz.ntmps71
  go_wp2
  (try simp only [IntKind.wrap_u16, IntKind.wrap_u8] at H)
  all_goals (first | refine fall rfl rfl ?_ | refine fallr rfl rfl ?_)
  all_goals (refine ⟨rfl, ?_⟩; first | exact H.only (i := 0) rfl)

set_option maxHeartbeats 2000000 in
theorem on_ct (s : Wk) : CM 65 s (onW s) := by
  intro R T w hR
  have HZB := Lib.hid alloc_by
  have HZU := Lib.hid alloc_bus
  have H := Mem.begin hR
  clear hR
  go_enter Tryz.func65, Tryz.ntmps65
  go_wp2_with (first | go_skip | (refine gate_load _ _ rfl ?_; first | (refine wpList_mload1 rfl _ _ rfl _ _ rfl 0 H _ (.int _ _) rfl rfl (by decide +kernel) ?_)) | (refine gate_store _ _ _ rfl ?_; (first | (refine wpList_mstore rfl _ _ _ rfl rfl _ _ rfl 0 H _ _ rfl (.int _ _) rfl (by kernel_rfl) (of_decide_eq_true (by kernel_rfl)) (by kernel_rfl) (by first | with_reducible exact st_PC _ _) ?_)); clear H; intro w1 H; simp only [List.set_cons_zero, List.set_cons_succ] at H) | fail)
  (try simp only [IntKind.wrap_u16, IntKind.wrap_u8] at H)
  all_goals (first | refine fall rfl rfl ?_ | refine fallr rfl rfl ?_)
  all_goals (refine ⟨rfl, ?_⟩; first | exact H.only (i := 0) rfl)

set_option maxHeartbeats 2000000 in
theorem keep_ct (s : Wk) : CM 68 s (keepW s) := by
  intro R T w hR
  have HZB := Lib.hid alloc_by
  have HZU := Lib.hid alloc_bus
  have H := Mem.begin hR
  clear hR
  go_enter Tryz.func68, Tryz.ntmps68
  go_wp2_with (first | go_skip | (refine gate_load _ _ rfl ?_; first | (refine wpList_mload rfl 23 _ rfl _ _ rfl 0 H _ #[.int .u8 _, .bool _] rfl (by decide +kernel) (by kernel_rfl) (part2 rfl rfl) ?_)) | (refine gate_store _ _ _ rfl ?_; (first | (refine wpList_mstore rfl 23 _ _ rfl rfl _ _ rfl 0 H _ _ rfl (.agg #[.int .u8 _, .bool _]) rfl (by kernel_rfl) (of_decide_eq_true (by kernel_rfl)) (by kernel_rfl) (by first | with_reducible exact st_D _ _ _) ?_)); clear H; intro w1 H; simp only [List.set_cons_zero, List.set_cons_succ] at H) | fail)
  (try simp only [IntKind.wrap_u16, IntKind.wrap_u8] at H)
  all_goals (first | refine fall rfl rfl ?_ | refine fallr rfl rfl ?_)
  all_goals (refine ⟨rfl, ?_⟩; first | exact H.only (i := 0) rfl)

set_option maxHeartbeats 2000000 in
theorem keepon_ct (s : Wk) : CM 51 s (onW (keepW s)) := by
  intro R T w hR
  have HZB := Lib.hid alloc_by
  have HZU := Lib.hid alloc_bus
  have H := Mem.begin hR
  clear hR
  go_enter Tryz.func51, Tryz.ntmps51
  go_wp2_with (first | (go_at_call 68; obtain ⟨T0, hT⟩ := H.get (i := 0) rfl; (with_reducible refine Calls.mono (keep_ct _ _ _ _ hT) ?_); rintro e w2 ⟨rfl, hm⟩; replace H := H.call (i := 0) rfl hm; clear hm hT; simp only [List.set_cons_zero, List.set_cons_succ] at H) | (go_at_call 65; obtain ⟨T0, hT⟩ := H.get (i := 0) rfl; (with_reducible refine Calls.mono (on_ct _ _ _ _ hT) ?_); rintro e w2 ⟨rfl, hm⟩; replace H := H.call (i := 0) rfl hm; clear hm hT; simp only [List.set_cons_zero, List.set_cons_succ] at H) | go_skip | fail)
  (try simp only [IntKind.wrap_u16, IntKind.wrap_u8] at H)
  all_goals (first | refine fall rfl rfl ?_ | refine fallr rfl rfl ?_)
  all_goals (refine ⟨rfl, ?_⟩; first | exact H.only (i := 0) rfl)

set_option maxHeartbeats 2000000 in
theorem jam_ct (s : Wk) : CM 58 s (doM .jam s) := by
  intro R T w hR
  have HZB := Lib.hid alloc_by
  have HZU := Lib.hid alloc_bus
  have H := Mem.begin hR
  clear hR
  go_enter Tryz.func58, Tryz.ntmps58
  go_wp2_with (first | go_skip | (refine gate_load _ _ rfl ?_; first | (refine wpList_mload1 rfl _ _ rfl _ _ rfl 0 H _ (.int _ _) rfl rfl (by decide +kernel) ?_)) | (refine gate_store _ _ _ rfl ?_; (first | (refine wpList_mstore rfl _ _ _ rfl rfl _ _ rfl 0 H _ _ rfl (.int _ _) rfl (by kernel_rfl) (of_decide_eq_true (by kernel_rfl)) (by kernel_rfl) (by first | with_reducible exact st_Nx _ _) ?_) | (refine wpList_mstore rfl _ _ _ rfl rfl _ _ rfl 0 H _ _ rfl (.bool _) rfl (by kernel_rfl) (of_decide_eq_true (by kernel_rfl)) (by kernel_rfl) (by first | with_reducible exact st_Jam _ _) ?_)); clear H; intro w1 H; simp only [List.set_cons_zero, List.set_cons_succ] at H) | fail)
  (try simp only [IntKind.wrap_u16, IntKind.wrap_u8] at H)
  all_goals (first | refine fall rfl rfl ?_ | refine fallr rfl rfl ?_)
  all_goals (refine ⟨rfl, ?_⟩; first | exact H.only (i := 0) rfl)

set_option maxHeartbeats 2000000 in
theorem pushed_ct (s : Wk) : CM 73 s (pushedW s) := by
  intro R T w hR
  have HZB := Lib.hid alloc_by
  have HZU := Lib.hid alloc_bus
  have H := Mem.begin hR
  clear hR
  go_enter Tryz.func73, Tryz.ntmps73
  go_wp2_with (first | go_skip | (refine gate_load _ _ rfl ?_; first | (refine wpList_mload1 rfl _ _ rfl _ _ rfl 0 H _ (.int _ _) rfl rfl (by decide +kernel) ?_)) | (refine gate_store _ _ _ rfl ?_; (first | (refine wpList_mstore rfl _ _ _ rfl rfl _ _ rfl 0 H _ _ rfl (.int _ _) rfl (by kernel_rfl) (of_decide_eq_true (by kernel_rfl)) (by kernel_rfl) (by first | with_reducible exact st_SV _ _) ?_)); clear H; intro w1 H; simp only [List.set_cons_zero, List.set_cons_succ] at H) | fail)
  (try simp only [IntKind.wrap_u16, IntKind.wrap_u8] at H)
  all_goals (first | refine fall rfl rfl ?_ | refine fallr rfl rfl ?_)
  all_goals (refine ⟨rfl, ?_⟩; first | exact H.only (i := 0) rfl)

set_option maxHeartbeats 2000000 in
theorem pulled_ct (s : Wk) : CM 75 s (pulledW s) := by
  intro R T w hR
  have HZB := Lib.hid alloc_by
  have HZU := Lib.hid alloc_bus
  have H := Mem.begin hR
  clear hR
  go_enter Tryz.func75, Tryz.ntmps75
  go_wp2_with (first | go_skip | (refine gate_load _ _ rfl ?_; first | (refine wpList_mload1 rfl _ _ rfl _ _ rfl 0 H _ (.int _ _) rfl rfl (by decide +kernel) ?_)) | (refine gate_store _ _ _ rfl ?_; (first | (refine wpList_mstore rfl _ _ _ rfl rfl _ _ rfl 0 H _ _ rfl (.int _ _) rfl (by kernel_rfl) (of_decide_eq_true (by kernel_rfl)) (by kernel_rfl) (by first | with_reducible exact st_SV _ _) ?_)); clear H; intro w1 H; simp only [List.set_cons_zero, List.set_cons_succ] at H) | fail)
  (try simp only [IntKind.wrap_u16, IntKind.wrap_u8] at H)
  all_goals (first | refine fall rfl rfl ?_ | refine fallr rfl rfl ?_)
  all_goals (refine ⟨rfl, ?_⟩; first | exact H.only (i := 0) rfl)

set_option maxHeartbeats 2000000 in
theorem pulldata_ct (s : Wk) : CM 76 s (pulledW (keepW s)) := by
  intro R T w hR
  have HZB := Lib.hid alloc_by
  have HZU := Lib.hid alloc_bus
  have H := Mem.begin hR
  clear hR
  go_enter Tryz.func76, Tryz.ntmps76
  go_wp2_with (first | (go_at_call 68; obtain ⟨T0, hT⟩ := H.get (i := 0) rfl; (with_reducible refine Calls.mono (keep_ct _ _ _ _ hT) ?_); rintro e w2 ⟨rfl, hm⟩; replace H := H.call (i := 0) rfl hm; clear hm hT; simp only [List.set_cons_zero, List.set_cons_succ] at H) | (go_at_call 75; obtain ⟨T0, hT⟩ := H.get (i := 0) rfl; (with_reducible refine Calls.mono (pulled_ct _ _ _ _ hT) ?_); rintro e w2 ⟨rfl, hm⟩; replace H := H.call (i := 0) rfl hm; clear hm hT; simp only [List.set_cons_zero, List.set_cons_succ] at H) | go_skip | fail)
  (try simp only [IntKind.wrap_u16, IntKind.wrap_u8] at H)
  all_goals (first | refine fall rfl rfl ?_ | refine fallr rfl rfl ?_)
  all_goals (refine ⟨rfl, ?_⟩; first | exact H.only (i := 0) rfl)

set_option maxHeartbeats 2000000 in
theorem leave_ct (s : Wk) : CM 50 s (doM .leave s) := by
  intro R T w hR
  have HZB := Lib.hid alloc_by
  have HZU := Lib.hid alloc_bus
  have H := Mem.begin hR
  clear hR
  go_enter Tryz.func50, Tryz.ntmps50
  go_wp2_with (first | go_skip | (refine gate_load _ _ rfl ?_; first | (refine wpList_mload1 rfl _ _ rfl _ _ rfl 0 H _ (.int _ _) rfl rfl (by decide +kernel) ?_) | (refine wpList_mload1 rfl _ _ rfl _ _ rfl 0 H _ (.bool _) rfl rfl (by decide +kernel) ?_)) | (refine gate_store _ _ _ rfl ?_; (first | (refine wpList_mstore rfl _ _ _ rfl rfl _ _ rfl 0 H _ _ rfl (.int _ _) rfl (by kernel_rfl) (of_decide_eq_true (by kernel_rfl)) (by kernel_rfl) (by first | with_reducible exact st_PC _ _) ?_) | (refine wpList_mstore rfl _ _ _ rfl rfl _ _ rfl 0 H _ _ rfl (.bool _) rfl (by kernel_rfl) (of_decide_eq_true (by kernel_rfl)) (by kernel_rfl) (by first | with_reducible exact st_PCS _ _) ?_)); clear H; intro w1 H; simp only [List.set_cons_zero, List.set_cons_succ] at H) | fail)
  (try simp only [IntKind.wrap_u16, IntKind.wrap_u8] at H)
  all_goals (first | refine fall rfl rfl ?_ | refine fallr rfl rfl ?_)
  all_goals (refine ⟨rfl, ?_⟩; first | (refine (H.only (i := 0) rfl).asW ?_; clear H; simp_all [IntKind.wrap_u16, IntKind.wrap_u8, Wk.uA, Wk.uX, Wk.uY, Wk.uS, Wk.uSV, Wk.uF, Wk.uPC, Wk.uPCS, Wk.uOp, Wk.uT, Wk.uAd, Wk.uAdS, Wk.uD, Wk.uCr, Wk.uIntr, Wk.uNmi, Wk.uGot, Wk.uPend, Wk.uCtl, Wk.uJam, Wk.uNx, Wk.uIs, doM, onW, keepW, jumpW, pushedW, pulledW, addW, reachW, begunW, beginW, branchW, aimW, crossW, loadA, loadX, loadY, flagW, cmpW, endW, hearW, turnW]; done))

set_option maxHeartbeats 2000000 in
theorem pullflags_ct (s : Wk) (v0 : 0 ≤ s.v) (v1 : s.v < 256) : CM 77 s (doM .pullFlags s) := by
  intro R T w hR
  have HZB := Lib.hid alloc_by
  have HZU := Lib.hid alloc_bus
  have H := Mem.begin hR
  clear hR
  go_enter Tryz.func77, Tryz.ntmps77
  go_wp2_with (first | (go_at_call 123; (with_reducible refine (apull_ct _ _ _ (by assumption) (by assumption)).mono ?_); rintro e w2 ⟨rfl, hB⟩; replace H := H.next hB; clear hB) | (go_at_call 75; obtain ⟨T0, hT⟩ := H.get (i := 0) rfl; (with_reducible refine Calls.mono (pulled_ct _ _ _ _ hT) ?_); rintro e w2 ⟨rfl, hm⟩; replace H := H.call (i := 0) rfl hm; clear hm hT; simp only [List.set_cons_zero, List.set_cons_succ] at H) | go_skip | (refine gate_load _ _ rfl ?_; first | (refine wpList_mload rfl 23 _ rfl _ _ rfl 0 H _ #[.int .u8 _, .bool _] rfl (by decide +kernel) (by kernel_rfl) (part2 rfl rfl) ?_)) | (refine gate_store _ _ _ rfl ?_; (first | (refine wpList_mstore rfl 25 _ _ rfl rfl _ _ rfl 0 H _ _ rfl (.agg #[.int .u8 _, .int .u8 _]) rfl (by kernel_rfl) (of_decide_eq_true (by kernel_rfl)) (by kernel_rfl) (by first | with_reducible exact st_F _ _ _) ?_)); clear H; intro w1 H; simp only [List.set_cons_zero, List.set_cons_succ] at H) | fail)
  (try simp only [IntKind.wrap_u16, IntKind.wrap_u8] at H)
  all_goals (first | refine fall rfl rfl ?_ | refine fallr rfl rfl ?_)
  all_goals (refine ⟨rfl, ?_⟩; first | exact H.only (i := 0) rfl)

set_option maxHeartbeats 2000000 in
theorem keepzero_ct (s : Wk) : CM 91 s (doM .keepInZero s) := by
  intro R T w hR
  have HZB := Lib.hid alloc_by
  have HZU := Lib.hid alloc_bus
  have H := Mem.begin hR
  clear hR
  go_enter Tryz.func91, Tryz.ntmps91
  go_wp2_with (first | (go_at_call 68; obtain ⟨T0, hT⟩ := H.get (i := 0) rfl; (with_reducible refine Calls.mono (keep_ct _ _ _ _ hT) ?_); rintro e w2 ⟨rfl, hm⟩; replace H := H.call (i := 0) rfl hm; clear hm hT; simp only [List.set_cons_zero, List.set_cons_succ] at H) | go_skip | (refine gate_load _ _ rfl ?_; first | (refine wpList_mload1 rfl _ _ rfl _ _ rfl 0 H _ (.int _ _) rfl rfl (by decide +kernel) ?_)) | (refine gate_store _ _ _ rfl ?_; (first | (refine wpList_mstore rfl _ _ _ rfl rfl _ _ rfl 0 H _ _ rfl (.int _ _) rfl (by kernel_rfl) (of_decide_eq_true (by kernel_rfl)) (by kernel_rfl) (by first | with_reducible exact st_Ad _ _) ?_)); clear H; intro w1 H; simp only [List.set_cons_zero, List.set_cons_succ] at H) | fail)
  (try simp only [IntKind.wrap_u16, IntKind.wrap_u8] at H)
  all_goals (first | refine fall rfl rfl ?_ | refine fallr rfl rfl ?_)
  all_goals (refine ⟨rfl, ?_⟩; first | exact H.only (i := 0) rfl)

set_option maxHeartbeats 2000000 in
theorem breakon_ct (s : Wk) : CM 78 s (doM .breakOn s) := by
  intro R T w hR
  have HZB := Lib.hid alloc_by
  have HZU := Lib.hid alloc_bus
  have H := Mem.begin hR
  clear hR
  go_enter Tryz.func78, Tryz.ntmps78
  go_wp2_with (first | (go_at_call 65; obtain ⟨T0, hT⟩ := H.get (i := 0) rfl; (with_reducible refine Calls.mono (on_ct _ _ _ _ hT) ?_); rintro e w2 ⟨rfl, hm⟩; replace H := H.call (i := 0) rfl hm; clear hm hT; simp only [List.set_cons_zero, List.set_cons_succ] at H) | go_skip | (refine gate_load _ _ rfl ?_; first | (refine wpList_mload1 rfl _ _ rfl _ _ rfl 0 H _ (.int _ _) rfl rfl (by decide +kernel) ?_)) | fail)
  (try simp only [IntKind.wrap_u16, IntKind.wrap_u8] at H)
  all_goals (first | refine fall rfl rfl ?_ | refine fallr rfl rfl ?_)
  all_goals (refine ⟨rfl, ?_⟩; first | (refine (H.only (i := 0) rfl).asW ?_; clear H; simp_all [IntKind.wrap_u16, IntKind.wrap_u8, Wk.uA, Wk.uX, Wk.uY, Wk.uS, Wk.uSV, Wk.uF, Wk.uPC, Wk.uPCS, Wk.uOp, Wk.uT, Wk.uAd, Wk.uAdS, Wk.uD, Wk.uCr, Wk.uIntr, Wk.uNmi, Wk.uGot, Wk.uPend, Wk.uCtl, Wk.uJam, Wk.uNx, Wk.uIs, doM, onW, keepW, jumpW, pushedW, pulledW, addW, reachW, begunW, beginW, branchW, aimW, crossW, loadA, loadX, loadY, flagW, cmpW, endW, hearW, turnW]; done))

set_option maxHeartbeats 2000000 in
theorem put_ct (s : Wk) (v : Int) (b : Bool) (w : World) : Calls Tryz.prog 130 #[.agg (wkC s), .agg #[.int .u8 v, .bool b]] w fun e w' => e = .returned (.agg (bsC (putB s v b))) ∧ Below w.heap.size w w' := by
  have HZB := Lib.hid alloc_by
  have HZU := Lib.hid alloc_bus
  have H := Mem.start w
  go_enter Tryz.func130, Tryz.ntmps130
  go_wp2_with (first | (refine wpList_mboxA rfl _ _ rfl H _ rfl ?_; clear H; intro _ w1 _ H) | go_skip | (refine gate_load _ _ rfl ?_; first | (refine wpList_mloadA rfl 23 _ rfl _ rfl 1 H #[.int .u8 _, .bool _] rfl (by decide +kernel) (by kernel_rfl) ?_) | (refine wpList_mload1 rfl _ _ rfl _ _ rfl 2 H _ (.int _ _) rfl rfl (by decide +kernel) ?_) | (refine wpList_mload1 rfl _ _ rfl _ _ rfl 2 H _ (.bool _) rfl rfl (by decide +kernel) ?_)) | (refine gate_store _ _ _ rfl ?_; (first | (refine wpList_mstoreA rfl 46 _ _ rfl rfl _ rfl 0 H (bsC _) _ rfl rfl (by kernel_rfl) (by kernel_rfl) (by kernel_rfl) ?_)); clear H; intro w1 H; simp only [List.set_cons_zero, List.set_cons_succ] at H) | (refine wpList_mnew rfl _ rfl H _ HZU.out ?_; clear H; intro _ w1 _ H) | fail)
  refine ret_mem1 rfl _ rfl 0 H _ rfl (by kernel_rfl) (by kernel_rfl) rfl ?_
  exact ⟨rfl, H.toBelow⟩
end Go.Proofs.YtcgnnbgknaamdaaGreatDoor
