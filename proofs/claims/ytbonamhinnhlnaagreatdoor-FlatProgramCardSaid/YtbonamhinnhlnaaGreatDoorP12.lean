/-
  Several texts in one: what is read and written by the functions on the way to the statements. Conditions stand in each theorem.
-/
import Derived.Test.YtbonamhinnhlnaaGreatDoorP11
namespace Go.Proofs.YtbonamhinnhlnaaGreatDoor
open Go.RowKit
set_option linter.unusedSimpArgs false
set_option linter.unusedVariables false
set_option maxRecDepth 20000

set_option maxHeartbeats 2000000 in
theorem aleft_ct (p s b : Int) (x : Bool) (c : Int) (y : Bool) (w : World) (p0 : 0 ≤ p) (p1 : p < 256) (s0 : 0 ≤ s) (s1 : s < 256) (b0 : 0 ≤ b) (b1 : b < 256) (c0 : 0 ≤ c) (c1 : c ≤ 1) :
    Calls Tryz.prog 247 #[.agg #[.int .u8 p, .int .u8 s], .agg #[.int .u8 b, .bool x], .agg #[.int .u8 c, .bool y]] w fun e w' => e = .returned (.tuple #[.agg #[.int .u8 (leftV b c), .bool (x || y)], .agg #[.int .u8 (leftP p b c), .int .u8 (rollS s x y)]]) ∧ Below w.heap.size w w' := by
  have hv := left_or b0 b1 c0 c1
  rw [← leftP_pro, ← rollS_pro]
  have HZF := Lib.hid alloc_fl
  have HZB := Lib.hid alloc_by
  have H := Mem.start w
  have M1 : True := trivial
  have M2 : True := trivial
  have M3 : True := trivial
  have M4 : True := trivial
  have M5 : True := trivial
  have M6 : True := trivial
  have M7 : True := trivial
  go_enter Tryz.func247, Tryz.ntmps247
  go_wp2_with (first | (refine wpList_mrow rfl _ _ _ rfl H _ (by simp only [List.map_toArray, List.map_cons, List.map_nil, Act.eval]; rfl) _ _ (build_by2 b x c y) ?_; clear H; (first | (clear M1; intro R1 w1 H) | (clear M2; intro R2 w1 H) | (clear M3; intro R3 w1 H) | (clear M4; intro R4 w1 H) | (clear M5; intro R5 w1 H) | (clear M6; intro R6 w1 H) | (clear M7; intro R7 w1 H))) | (go_at_call 218; (with_reducible refine (of2_ct _ _ _ x y H 0 rfl).mono ?_); rintro e w2 ⟨rfl, hB⟩; replace H := H.next hB; clear hB) | (refine wpList_mboxA rfl _ _ rfl H _ rfl ?_; clear H; (first | (clear M1; intro R1 w1 _ H) | (clear M2; intro R2 w1 _ H) | (clear M3; intro R3 w1 _ H) | (clear M4; intro R4 w1 _ H) | (clear M5; intro R5 w1 _ H) | (clear M6; intro R6 w1 _ H) | (clear M7; intro R7 w1 _ H))) | go_skip | (refine gate_load _ _ rfl ?_; first | (refine wpList_mloadA rfl _ _ rfl _ rfl 2 H _ rfl (by decide +kernel) (by kernel_rfl) ?_) | (refine wpList_mloadA rfl _ _ rfl _ rfl 3 H _ rfl (by decide +kernel) (by kernel_rfl) ?_) | (refine wpList_mload1 rfl _ _ rfl _ _ rfl 2 H _ (.int _ _) rfl rfl (by decide +kernel) ?_) | (refine wpList_mload1 rfl _ _ rfl _ _ rfl 3 H _ (.int _ _) rfl rfl (by decide +kernel) ?_)) | (refine gate_store _ _ _ rfl ?_; (first | (refine wpList_mstoreA rfl _ _ _ rfl rfl _ rfl 0 H _ _ rfl rfl (by kernel_rfl) (by kernel_rfl) (by kernel_rfl) ?_)); clear H; intro w1 H; simp only [List.set_cons_zero, List.set_cons_succ] at H) | (refine wpList_mnew rfl _ rfl H _ HZF.out ?_; clear H; (first | (clear M1; intro R1 w1 _ H) | (clear M2; intro R2 w1 _ H) | (clear M3; intro R3 w1 _ H) | (clear M4; intro R4 w1 _ H) | (clear M5; intro R5 w1 _ H) | (clear M6; intro R6 w1 _ H) | (clear M7; intro R7 w1 _ H))) | (refine wpList_mnew rfl _ rfl H _ HZB.out ?_; clear H; (first | (clear M1; intro R1 w1 _ H) | (clear M2; intro R2 w1 _ H) | (clear M3; intro R3 w1 _ H) | (clear M4; intro R4 w1 _ H) | (clear M5; intro R5 w1 _ H) | (clear M6; intro R6 w1 _ H) | (clear M7; intro R7 w1 _ H))) | fail)
  (try simp only [Act.put, List.setIfInBounds_toArray, List.set_cons_succ, List.set_cons_zero])
  clear hv
  replace H : Mem w.heap.size [] w _ [(R7, #[.int .u8 (leftV b c), .bool (x || y)]), (R6, #[.int .u8 (b), .bool (x), .int .u8 (c), .bool (y)]), (R5, #[.int .u8 (0), .int .u8 (0)]), (R4, #[.int .u8 (0), .bool (false)]), (R3, #[.int .u8 (c), .bool (y)]), (R2, #[.int .u8 (b), .bool (x)]), (R1, #[.int .u8 (p), .int .u8 (s)])] := H
  refine wp_region_x (by kernel_rfl) (by kernel_rfl) [(some 19, fun _ => .agg #[.int .u8 (leftV b c), .bool (x || y)]), (some 20, fun _ => .agg #[.int .u8 (p), .int .u8 (s)]), (some 21, fun _ => .agg #[.int .u8 (leftV b c), .bool (x || y)]), (some 22, fun _ => .agg #[.int .u8 (nzP (p) (leftV b c)), .int .u8 (nzS (s) (x || y))]), (some 23, fun _ => .agg #[.int .u8 (b), .bool (x)]), (some 24, fun _ => .agg #[.int .u8 (bitV (b) (7)), .bool (x)]), (some 25, fun _ => .agg #[.int .u8 (pbV (nzP (p) (leftV b c)) (1) (decide (128 ≤ b))), .int .u8 (pbV (nzS (s) (x || y)) (1) (x))]), (none, fun _ => undef), (none, fun _ => undef)] (fun D bq w => Mem _ _ _ w ([(R7, #[.int .u8 (leftV b c), .bool (x || y)]), (R6, #[.int .u8 (b), .bool (x), .int .u8 (c), .bool (y)]), (R5, cond (D 8) #[.int .u8 (pbV (nzP (p) (leftV b c)) (1) (decide (128 ≤ b))), .int .u8 (pbV (nzS (s) (x || y)) (1) (x))] (#[.int .u8 (0), .int .u8 (0)])), (R4, cond (D 7) #[.int .u8 (leftV b c), .bool (x || y)] (#[.int .u8 (0), .bool (false)])), (R3, #[.int .u8 (c), .bool (y)]), (R2, #[.int .u8 (b), .bool (x)]), (R1, #[.int .u8 (p), .int .u8 (s)])])) 26 (by rfl) (by rfl) (by rfl) H.drew ⟨⟨rfl, ?p0⟩, ⟨rfl, ?p1⟩, ⟨rfl, ?p2⟩, ⟨rfl, ?p3⟩, ⟨rfl, ?p4⟩, ⟨rfl, ?p5⟩, ⟨rfl, ?p6⟩, ⟨rfl, ?p7⟩, ⟨rfl, ?p8⟩, trivial⟩ ?_
  case p0 =>
    intro D bq a' w' hk hc he hl hW
    (try dsimp only at hW)
    have f8 : a'.tmps.getD 8 undef = .pointer (some ⟨R7, 0, none⟩) := (hl 8).trans ((vsx_no rfl).trans rfl)
    exact wp_sloadA _ _ rfl _ f8 0 hW #[.int .u8 (leftV b c), .bool (x || y)] rfl (by kernel_rfl) (by kernel_rfl) ⟨0, rfl, hW⟩
  case p1 =>
    intro D bq a' w' hk hc he hl hW
    (try dsimp only at hW)
    have f3 : a'.tmps.getD 3 undef = .pointer (some ⟨R1, 0, none⟩) := (hl 3).trans ((vsx_no rfl).trans rfl)
    exact wp_sloadA _ _ rfl _ f3 6 hW #[.int .u8 (p), .int .u8 (s)] rfl (by kernel_rfl) (by kernel_rfl) ⟨0, rfl, hW⟩
  case p2 =>
    intro D bq a' w' hk hc he hl hW
    (try dsimp only at hW)
    have f8 : a'.tmps.getD 8 undef = .pointer (some ⟨R7, 0, none⟩) := (hl 8).trans ((vsx_no rfl).trans rfl)
    exact wp_sloadA _ _ rfl _ f8 0 hW #[.int .u8 (leftV b c), .bool (x || y)] rfl (by kernel_rfl) (by kernel_rfl) ⟨0, rfl, hW⟩
  case p3 =>
    intro D bq a' w' hk hc he hl hW
    (try dsimp only at hW)
    have e1 : a'.tmps.getD 20 undef = .agg #[.int .u8 (p), .int .u8 (s)] := (hl 20).trans (vsx_at (f := fun _ => .agg #[.int .u8 (p), .int .u8 (s)]) rfl (he ⟨1, .data⟩ (by simp) rfl) rfl)
    have e2 : a'.tmps.getD 21 undef = .agg #[.int .u8 (leftV b c), .bool (x || y)] := (hl 21).trans (vsx_at (f := fun _ => .agg #[.int .u8 (leftV b c), .bool (x || y)]) rfl (he ⟨2, .data⟩ (by simp) rfl) rfl)
    refine wp_callp (vals := #[.agg #[.int .u8 (p), .int .u8 (s)], .agg #[.int .u8 (leftV b c), .bool (x || y)]]) rfl rfl (by simp only [List.map_toArray, List.map_cons, List.map_nil, Act.eval, e1, e2]) (by kernel_rfl) (anz_ct (p) (s) (leftV b c) (x || y) w' (by first | assumption | decide | omega) (by first | assumption | decide | omega) (by first | assumption | decide | omega) (by first | assumption | decide | omega) (by first | assumption | exact (leftV_le _ _).1 | decide | omega) (by first | assumption | exact (leftV_le _ _).2 | decide | omega)) ?_
    rintro e w2 ⟨rfl, hB⟩
    exact ⟨_, rfl, 0, rfl, Mem.next hW hB⟩
  case p4 =>
    intro D bq a' w' hk hc he hl hW
    (try dsimp only at hW)
    have f4 : a'.tmps.getD 4 undef = .pointer (some ⟨R2, 0, none⟩) := (hl 4).trans ((vsx_no rfl).trans rfl)
    exact wp_sloadA _ _ rfl _ f4 5 hW #[.int .u8 (b), .bool (x)] rfl (by kernel_rfl) (by kernel_rfl) ⟨0, rfl, hW⟩
  case p5 =>
    intro D bq a' w' hk hc he hl hW
    (try dsimp only at hW)
    have e4 : a'.tmps.getD 23 undef = .agg #[.int .u8 (b), .bool (x)] := (hl 23).trans (vsx_at (f := fun _ => .agg #[.int .u8 (b), .bool (x)]) rfl (he ⟨4, .data⟩ (by simp) rfl) rfl)
    refine wp_callp (vals := #[.agg #[.int .u8 (b), .bool (x)], .int .i64 (7)]) rfl rfl (by simp only [List.map_toArray, List.map_cons, List.map_nil, Act.eval, e4]) (by kernel_rfl) (bit_ct (b) (7) (x) w' (by first | assumption | decide | omega) (by first | assumption | decide | omega)) ?_
    rintro e w2 ⟨rfl, hB⟩
    exact ⟨_, rfl, 0, rfl, Mem.next hW hB⟩
  case p6 =>
    intro D bq a' w' hk hc he hl hW
    (try dsimp only at hW)
    have e3 : a'.tmps.getD 22 undef = .agg #[.int .u8 (nzP (p) (leftV b c)), .int .u8 (nzS (s) (x || y))] := (hl 22).trans (vsx_at (f := fun _ => .agg #[.int .u8 (nzP (p) (leftV b c)), .int .u8 (nzS (s) (x || y))]) rfl (he ⟨3, .data⟩ (by simp) rfl) rfl)
    have e5 : a'.tmps.getD 24 undef = .agg #[.int .u8 (bitV (b) (7)), .bool (x)] := (hl 24).trans (vsx_at (f := fun _ => .agg #[.int .u8 (bitV (b) (7)), .bool (x)]) rfl (he ⟨5, .data⟩ (by simp) rfl) rfl)
    refine wp_callp (vals := #[.agg #[.int .u8 (nzP (p) (leftV b c)), .int .u8 (nzS (s) (x || y))], .int .u8 (1), .agg #[.int .u8 (bitV (b) (7)), .bool (x)]]) rfl rfl (by simp only [List.map_toArray, List.map_cons, List.map_nil, Act.eval, e3, e5]) (by kernel_rfl) (aset_ct (nzP (p) (leftV b c)) (nzS (s) (x || y)) (1) (bitV (b) (7)) (decide (128 ≤ b)) (x) (top_bit b0 b1) w' (by first | assumption | exact (pbV_le _ _ _).1 | decide | omega) (by first | assumption | exact (pbV_le _ _ _).2 | decide | omega) (by first | assumption | exact (pbV_le _ _ _).1 | decide | omega) (by first | assumption | exact (pbV_le _ _ _).2 | decide | omega) (by first | assumption | decide | omega) (by first | assumption | decide | omega)) ?_
    rintro e w2 ⟨rfl, hB⟩
    exact ⟨_, rfl, 0, rfl, Mem.next hW hB⟩
  case p7 =>
    intro D bq a' w' hk hc he hl hW
    (try dsimp only at hW)
    have f6 : a'.tmps.getD 6 undef = .pointer (some ⟨R4, 0, none⟩) := (hl 6).trans ((vsx_no rfl).trans rfl)
    have e0 : a'.tmps.getD 19 undef = .agg #[.int .u8 (leftV b c), .bool (x || y)] := (hl 19).trans (vsx_at (f := fun _ => .agg #[.int .u8 (leftV b c), .bool (x || y)]) rfl (he ⟨0, .data⟩ (by simp) rfl) rfl)
    have hM := hW
    simp only [hk, cond_false] at hM
    exact wp_sstoreA _ _ _ rfl rfl R4 f6 3 hM #[.int .u8 (0), .bool (false)] #[.int .u8 (leftV b c), .bool (x || y)] rfl e0 (by kernel_rfl) (by rfl) (by kernel_rfl) fun w1 hM1 => ⟨0, rfl, hM1⟩
  case p8 =>
    intro D bq a' w' hk hc he hl hW
    (try dsimp only at hW)
    have f7 : a'.tmps.getD 7 undef = .pointer (some ⟨R5, 0, none⟩) := (hl 7).trans ((vsx_no rfl).trans rfl)
    have e6 : a'.tmps.getD 25 undef = .agg #[.int .u8 (pbV (nzP (p) (leftV b c)) (1) (decide (128 ≤ b))), .int .u8 (pbV (nzS (s) (x || y)) (1) (x))] := (hl 25).trans (vsx_at (f := fun _ => .agg #[.int .u8 (pbV (nzP (p) (leftV b c)) (1) (decide (128 ≤ b))), .int .u8 (pbV (nzS (s) (x || y)) (1) (x))]) rfl (he ⟨6, .data⟩ (by simp) rfl) rfl)
    have hM := hW
    simp only [hk, cond_false] at hM
    exact wp_sstoreA _ _ _ rfl rfl R5 f7 2 hM #[.int .u8 (0), .int .u8 (0)] #[.int .u8 (pbV (nzP (p) (leftV b c)) (1) (decide (128 ≤ b))), .int .u8 (pbV (nzS (s) (x || y)) (1) (x))] rfl e6 (by kernel_rfl) (by rfl) (by kernel_rfl) fun w1 hM1 => ⟨0, rfl, hM1⟩
  intro D bq w' hD hW
  (try dsimp only at hW)
  simp only [hD 7 (by decide), hD 8 (by decide), cond_true] at hW
  clear H hD
  have H := hW
  clear hW
  simp only [putAll, vsOf, Nat.reduceAdd, List.foldl_cons, List.foldl_nil, Act.put, List.setIfInBounds_toArray, List.set_cons_succ, List.set_cons_zero]
  go_wp2_with (first | go_skip)
  refine ret_memAA rfl _ _ rfl rfl 3 2 H _ _ rfl rfl (by kernel_rfl) (by kernel_rfl) (by kernel_rfl) (by kernel_rfl) rfl ?_
  exact ⟨rfl, H.toBelow⟩
set_option maxHeartbeats 2000000 in
theorem aright_ct (p s b : Int) (x : Bool) (c : Int) (y : Bool) (w : World) (p0 : 0 ≤ p) (p1 : p < 256) (s0 : 0 ≤ s) (s1 : s < 256) (b0 : 0 ≤ b) (b1 : b < 256) (c0 : 0 ≤ c) (c1 : c ≤ 1) :
    Calls Tryz.prog 248 #[.agg #[.int .u8 p, .int .u8 s], .agg #[.int .u8 b, .bool x], .agg #[.int .u8 c, .bool y]] w fun e w' => e = .returned (.tuple #[.agg #[.int .u8 (rightV b c), .bool (x || y)], .agg #[.int .u8 (rightP p b c), .int .u8 (rollS s x y)]]) ∧ Below w.heap.size w w' := by
  have hv := right_or b0 b1 c0 c1
  rw [← rightP_pro, ← rollS_pro]
  have HZF := Lib.hid alloc_fl
  have HZB := Lib.hid alloc_by
  have H := Mem.start w
  have M1 : True := trivial
  have M2 : True := trivial
  have M3 : True := trivial
  have M4 : True := trivial
  have M5 : True := trivial
  have M6 : True := trivial
  have M7 : True := trivial
  go_enter Tryz.func248, Tryz.ntmps248
  go_wp2_with (first | (refine wpList_mrow rfl _ _ _ rfl H _ (by simp only [List.map_toArray, List.map_cons, List.map_nil, Act.eval]; rfl) _ _ (build_by2 b x c y) ?_; clear H; (first | (clear M1; intro R1 w1 H) | (clear M2; intro R2 w1 H) | (clear M3; intro R3 w1 H) | (clear M4; intro R4 w1 H) | (clear M5; intro R5 w1 H) | (clear M6; intro R6 w1 H) | (clear M7; intro R7 w1 H))) | (go_at_call 218; (with_reducible refine (of2_ct _ _ _ x y H 0 rfl).mono ?_); rintro e w2 ⟨rfl, hB⟩; replace H := H.next hB; clear hB) | (refine wpList_mboxA rfl _ _ rfl H _ rfl ?_; clear H; (first | (clear M1; intro R1 w1 _ H) | (clear M2; intro R2 w1 _ H) | (clear M3; intro R3 w1 _ H) | (clear M4; intro R4 w1 _ H) | (clear M5; intro R5 w1 _ H) | (clear M6; intro R6 w1 _ H) | (clear M7; intro R7 w1 _ H))) | go_skip | (refine gate_load _ _ rfl ?_; first | (refine wpList_mloadA rfl _ _ rfl _ rfl 2 H _ rfl (by decide +kernel) (by kernel_rfl) ?_) | (refine wpList_mloadA rfl _ _ rfl _ rfl 3 H _ rfl (by decide +kernel) (by kernel_rfl) ?_) | (refine wpList_mload1 rfl _ _ rfl _ _ rfl 2 H _ (.int _ _) rfl rfl (by decide +kernel) ?_) | (refine wpList_mload1 rfl _ _ rfl _ _ rfl 3 H _ (.int _ _) rfl rfl (by decide +kernel) ?_)) | (refine gate_store _ _ _ rfl ?_; (first | (refine wpList_mstoreA rfl _ _ _ rfl rfl _ rfl 0 H _ _ rfl rfl (by kernel_rfl) (by kernel_rfl) (by kernel_rfl) ?_)); clear H; intro w1 H; simp only [List.set_cons_zero, List.set_cons_succ] at H) | (refine wpList_mnew rfl _ rfl H _ HZF.out ?_; clear H; (first | (clear M1; intro R1 w1 _ H) | (clear M2; intro R2 w1 _ H) | (clear M3; intro R3 w1 _ H) | (clear M4; intro R4 w1 _ H) | (clear M5; intro R5 w1 _ H) | (clear M6; intro R6 w1 _ H) | (clear M7; intro R7 w1 _ H))) | (refine wpList_mnew rfl _ rfl H _ HZB.out ?_; clear H; (first | (clear M1; intro R1 w1 _ H) | (clear M2; intro R2 w1 _ H) | (clear M3; intro R3 w1 _ H) | (clear M4; intro R4 w1 _ H) | (clear M5; intro R5 w1 _ H) | (clear M6; intro R6 w1 _ H) | (clear M7; intro R7 w1 _ H))) | fail)
  (try simp only [Act.put, List.setIfInBounds_toArray, List.set_cons_succ, List.set_cons_zero])
  clear hv
  replace H : Mem w.heap.size [] w _ [(R7, #[.int .u8 (rightV b c), .bool (x || y)]), (R6, #[.int .u8 (b), .bool (x), .int .u8 (c), .bool (y)]), (R5, #[.int .u8 (0), .int .u8 (0)]), (R4, #[.int .u8 (0), .bool (false)]), (R3, #[.int .u8 (c), .bool (y)]), (R2, #[.int .u8 (b), .bool (x)]), (R1, #[.int .u8 (p), .int .u8 (s)])] := H
  refine wp_region_x (by kernel_rfl) (by kernel_rfl) [(some 20, fun _ => .agg #[.int .u8 (rightV b c), .bool (x || y)]), (some 21, fun _ => .agg #[.int .u8 (p), .int .u8 (s)]), (some 22, fun _ => .agg #[.int .u8 (rightV b c), .bool (x || y)]), (some 23, fun _ => .agg #[.int .u8 (nzP (p) (rightV b c)), .int .u8 (nzS (s) (x || y))]), (some 24, fun _ => .agg #[.int .u8 (b), .bool (x)]), (some 25, fun _ => .agg #[.int .u8 (bitV (b) (0)), .bool (x)]), (some 26, fun _ => .agg #[.int .u8 (pbV (nzP (p) (rightV b c)) (1) (decide (b % 2 = 1))), .int .u8 (pbV (nzS (s) (x || y)) (1) (x))]), (none, fun _ => undef), (none, fun _ => undef)] (fun D bq w => Mem _ _ _ w ([(R7, #[.int .u8 (rightV b c), .bool (x || y)]), (R6, #[.int .u8 (b), .bool (x), .int .u8 (c), .bool (y)]), (R5, cond (D 8) #[.int .u8 (pbV (nzP (p) (rightV b c)) (1) (decide (b % 2 = 1))), .int .u8 (pbV (nzS (s) (x || y)) (1) (x))] (#[.int .u8 (0), .int .u8 (0)])), (R4, cond (D 7) #[.int .u8 (rightV b c), .bool (x || y)] (#[.int .u8 (0), .bool (false)])), (R3, #[.int .u8 (c), .bool (y)]), (R2, #[.int .u8 (b), .bool (x)]), (R1, #[.int .u8 (p), .int .u8 (s)])])) 27 (by rfl) (by rfl) (by rfl) H.drew ⟨⟨rfl, ?p0⟩, ⟨rfl, ?p1⟩, ⟨rfl, ?p2⟩, ⟨rfl, ?p3⟩, ⟨rfl, ?p4⟩, ⟨rfl, ?p5⟩, ⟨rfl, ?p6⟩, ⟨rfl, ?p7⟩, ⟨rfl, ?p8⟩, trivial⟩ ?_
  case p0 =>
    intro D bq a' w' hk hc he hl hW
    (try dsimp only at hW)
    have f8 : a'.tmps.getD 8 undef = .pointer (some ⟨R7, 0, none⟩) := (hl 8).trans ((vsx_no rfl).trans rfl)
    exact wp_sloadA _ _ rfl _ f8 0 hW #[.int .u8 (rightV b c), .bool (x || y)] rfl (by kernel_rfl) (by kernel_rfl) ⟨0, rfl, hW⟩
  case p1 =>
    intro D bq a' w' hk hc he hl hW
    (try dsimp only at hW)
    have f3 : a'.tmps.getD 3 undef = .pointer (some ⟨R1, 0, none⟩) := (hl 3).trans ((vsx_no rfl).trans rfl)
    exact wp_sloadA _ _ rfl _ f3 6 hW #[.int .u8 (p), .int .u8 (s)] rfl (by kernel_rfl) (by kernel_rfl) ⟨0, rfl, hW⟩
  case p2 =>
    intro D bq a' w' hk hc he hl hW
    (try dsimp only at hW)
    have f8 : a'.tmps.getD 8 undef = .pointer (some ⟨R7, 0, none⟩) := (hl 8).trans ((vsx_no rfl).trans rfl)
    exact wp_sloadA _ _ rfl _ f8 0 hW #[.int .u8 (rightV b c), .bool (x || y)] rfl (by kernel_rfl) (by kernel_rfl) ⟨0, rfl, hW⟩
  case p3 =>
    intro D bq a' w' hk hc he hl hW
    (try dsimp only at hW)
    have e1 : a'.tmps.getD 21 undef = .agg #[.int .u8 (p), .int .u8 (s)] := (hl 21).trans (vsx_at (f := fun _ => .agg #[.int .u8 (p), .int .u8 (s)]) rfl (he ⟨1, .data⟩ (by simp) rfl) rfl)
    have e2 : a'.tmps.getD 22 undef = .agg #[.int .u8 (rightV b c), .bool (x || y)] := (hl 22).trans (vsx_at (f := fun _ => .agg #[.int .u8 (rightV b c), .bool (x || y)]) rfl (he ⟨2, .data⟩ (by simp) rfl) rfl)
    refine wp_callp (vals := #[.agg #[.int .u8 (p), .int .u8 (s)], .agg #[.int .u8 (rightV b c), .bool (x || y)]]) rfl rfl (by simp only [List.map_toArray, List.map_cons, List.map_nil, Act.eval, e1, e2]) (by kernel_rfl) (anz_ct (p) (s) (rightV b c) (x || y) w' (by first | assumption | decide | omega) (by first | assumption | decide | omega) (by first | assumption | decide | omega) (by first | assumption | decide | omega) (by first | assumption | exact (rightV_le _ _).1 | decide | omega) (by first | assumption | exact (rightV_le _ _).2 | decide | omega)) ?_
    rintro e w2 ⟨rfl, hB⟩
    exact ⟨_, rfl, 0, rfl, Mem.next hW hB⟩
  case p4 =>
    intro D bq a' w' hk hc he hl hW
    (try dsimp only at hW)
    have f4 : a'.tmps.getD 4 undef = .pointer (some ⟨R2, 0, none⟩) := (hl 4).trans ((vsx_no rfl).trans rfl)
    exact wp_sloadA _ _ rfl _ f4 5 hW #[.int .u8 (b), .bool (x)] rfl (by kernel_rfl) (by kernel_rfl) ⟨0, rfl, hW⟩
  case p5 =>
    intro D bq a' w' hk hc he hl hW
    (try dsimp only at hW)
    have e4 : a'.tmps.getD 24 undef = .agg #[.int .u8 (b), .bool (x)] := (hl 24).trans (vsx_at (f := fun _ => .agg #[.int .u8 (b), .bool (x)]) rfl (he ⟨4, .data⟩ (by simp) rfl) rfl)
    refine wp_callp (vals := #[.agg #[.int .u8 (b), .bool (x)], .int .i64 (0)]) rfl rfl (by simp only [List.map_toArray, List.map_cons, List.map_nil, Act.eval, e4]) (by kernel_rfl) (bit_ct (b) (0) (x) w' (by first | assumption | decide | omega) (by first | assumption | decide | omega)) ?_
    rintro e w2 ⟨rfl, hB⟩
    exact ⟨_, rfl, 0, rfl, Mem.next hW hB⟩
  case p6 =>
    intro D bq a' w' hk hc he hl hW
    (try dsimp only at hW)
    have e3 : a'.tmps.getD 23 undef = .agg #[.int .u8 (nzP (p) (rightV b c)), .int .u8 (nzS (s) (x || y))] := (hl 23).trans (vsx_at (f := fun _ => .agg #[.int .u8 (nzP (p) (rightV b c)), .int .u8 (nzS (s) (x || y))]) rfl (he ⟨3, .data⟩ (by simp) rfl) rfl)
    have e5 : a'.tmps.getD 25 undef = .agg #[.int .u8 (bitV (b) (0)), .bool (x)] := (hl 25).trans (vsx_at (f := fun _ => .agg #[.int .u8 (bitV (b) (0)), .bool (x)]) rfl (he ⟨5, .data⟩ (by simp) rfl) rfl)
    refine wp_callp (vals := #[.agg #[.int .u8 (nzP (p) (rightV b c)), .int .u8 (nzS (s) (x || y))], .int .u8 (1), .agg #[.int .u8 (bitV (b) (0)), .bool (x)]]) rfl rfl (by simp only [List.map_toArray, List.map_cons, List.map_nil, Act.eval, e3, e5]) (by kernel_rfl) (aset_ct (nzP (p) (rightV b c)) (nzS (s) (x || y)) (1) (bitV (b) (0)) (decide (b % 2 = 1)) (x) (low_bit b0 b1) w' (by first | assumption | exact (pbV_le _ _ _).1 | decide | omega) (by first | assumption | exact (pbV_le _ _ _).2 | decide | omega) (by first | assumption | exact (pbV_le _ _ _).1 | decide | omega) (by first | assumption | exact (pbV_le _ _ _).2 | decide | omega) (by first | assumption | decide | omega) (by first | assumption | decide | omega)) ?_
    rintro e w2 ⟨rfl, hB⟩
    exact ⟨_, rfl, 0, rfl, Mem.next hW hB⟩
  case p7 =>
    intro D bq a' w' hk hc he hl hW
    (try dsimp only at hW)
    have f6 : a'.tmps.getD 6 undef = .pointer (some ⟨R4, 0, none⟩) := (hl 6).trans ((vsx_no rfl).trans rfl)
    have e0 : a'.tmps.getD 20 undef = .agg #[.int .u8 (rightV b c), .bool (x || y)] := (hl 20).trans (vsx_at (f := fun _ => .agg #[.int .u8 (rightV b c), .bool (x || y)]) rfl (he ⟨0, .data⟩ (by simp) rfl) rfl)
    have hM := hW
    simp only [hk, cond_false] at hM
    exact wp_sstoreA _ _ _ rfl rfl R4 f6 3 hM #[.int .u8 (0), .bool (false)] #[.int .u8 (rightV b c), .bool (x || y)] rfl e0 (by kernel_rfl) (by rfl) (by kernel_rfl) fun w1 hM1 => ⟨0, rfl, hM1⟩
  case p8 =>
    intro D bq a' w' hk hc he hl hW
    (try dsimp only at hW)
    have f7 : a'.tmps.getD 7 undef = .pointer (some ⟨R5, 0, none⟩) := (hl 7).trans ((vsx_no rfl).trans rfl)
    have e6 : a'.tmps.getD 26 undef = .agg #[.int .u8 (pbV (nzP (p) (rightV b c)) (1) (decide (b % 2 = 1))), .int .u8 (pbV (nzS (s) (x || y)) (1) (x))] := (hl 26).trans (vsx_at (f := fun _ => .agg #[.int .u8 (pbV (nzP (p) (rightV b c)) (1) (decide (b % 2 = 1))), .int .u8 (pbV (nzS (s) (x || y)) (1) (x))]) rfl (he ⟨6, .data⟩ (by simp) rfl) rfl)
    have hM := hW
    simp only [hk, cond_false] at hM
    exact wp_sstoreA _ _ _ rfl rfl R5 f7 2 hM #[.int .u8 (0), .int .u8 (0)] #[.int .u8 (pbV (nzP (p) (rightV b c)) (1) (decide (b % 2 = 1))), .int .u8 (pbV (nzS (s) (x || y)) (1) (x))] rfl e6 (by kernel_rfl) (by rfl) (by kernel_rfl) fun w1 hM1 => ⟨0, rfl, hM1⟩
  intro D bq w' hD hW
  (try dsimp only at hW)
  simp only [hD 7 (by decide), hD 8 (by decide), cond_true] at hW
  clear H hD
  have H := hW
  clear hW
  simp only [putAll, vsOf, Nat.reduceAdd, List.foldl_cons, List.foldl_nil, Act.put, List.setIfInBounds_toArray, List.set_cons_succ, List.set_cons_zero]
  go_wp2_with (first | go_skip)
  refine ret_memAA rfl _ _ rfl rfl 3 2 H _ _ rfl rfl (by kernel_rfl) (by kernel_rfl) (by kernel_rfl) (by kernel_rfl) rfl ?_
  exact ⟨rfl, H.toBelow⟩
set_option maxHeartbeats 2000000 in
theorem acmp_ct (p s a : Int) (x : Bool) (m : Int) (y : Bool) (w : World) (p0 : 0 ≤ p) (p1 : p < 256) (s0 : 0 ≤ s) (s1 : s < 256) (a0 : 0 ≤ a) (a1 : a < 256) (m0 : 0 ≤ m) (m1 : m < 256) :
    Calls Tryz.prog 232 #[.agg #[.int .u8 p, .int .u8 s], .agg #[.int .u8 a, .bool x], .agg #[.int .u8 m, .bool y]] w fun e w' => e = .returned (.agg #[.int .u8 (lessP p a m), .int .u8 (lessS s (x || y))]) ∧ Below w.heap.size w w' := by
  rw [← lessP_pro, ← lessS_pro]
  have HZF := Lib.hid alloc_fl
  have HZB := Lib.hid alloc_by
  have H := Mem.start w
  have M1 : True := trivial
  have M2 : True := trivial
  have M3 : True := trivial
  have M4 : True := trivial
  go_enter Tryz.func232, Tryz.ntmps232
  go_wp2_with (first | (refine wpList_mboxA rfl _ _ rfl H _ rfl ?_; clear H; (first | (clear M1; intro R1 w1 _ H) | (clear M2; intro R2 w1 _ H) | (clear M3; intro R3 w1 _ H) | (clear M4; intro R4 w1 _ H))) | go_skip | (refine wpList_mnew rfl _ rfl H _ HZF.out ?_; clear H; (first | (clear M1; intro R1 w1 _ H) | (clear M2; intro R2 w1 _ H) | (clear M3; intro R3 w1 _ H) | (clear M4; intro R4 w1 _ H))) | fail)
  (try simp only [Act.put, List.setIfInBounds_toArray, List.set_cons_succ, List.set_cons_zero])
  replace H : Mem w.heap.size [] w _ [(R4, #[.int .u8 (0), .int .u8 (0)]), (R3, #[.int .u8 (m), .bool (y)]), (R2, #[.int .u8 (a), .bool (x)]), (R1, #[.int .u8 (p), .int .u8 (s)])] := H
  refine wp_region_x (by kernel_rfl) (by kernel_rfl) [(some 7, fun _ => .agg #[.int .u8 (p), .int .u8 (s)]), (some 8, fun _ => .agg #[.int .u8 (a), .bool (x)]), (some 9, fun _ => .agg #[.int .u8 (m), .bool (y)]), (some 10, fun _ => .agg #[.int .u8 (lessV (a) (m)), .bool ((x) || (y))]), (some 11, fun _ => .agg #[.int .u8 (nzP (p) (lessV (a) (m))), .int .u8 (nzS (s) ((x) || (y)))]), (some 12, fun _ => .pointer (some ⟨R2, 0, none⟩)), (some 13, fun _ => .int .u8 (a)), (some 14, fun _ => .pointer (some ⟨R3, 0, none⟩)), (some 15, fun _ => .int .u8 (m)), (some 16, fun _ => .bool (decide (m ≤ a))), (some 17, fun _ => .int .u8 (oneI (decide (m ≤ a)))), (some 18, fun _ => .agg #[.int .u8 (a), .bool (x)]), (some 19, fun _ => .agg #[.int .u8 (m), .bool (y)]), (some 20, fun R => .slice (some ⟨R, 0, none⟩) 2 2), (some 21, fun _ => .agg #[.int .u8 (oneI (decide (m ≤ a))), .bool ((x) || (y))]), (some 22, fun _ => .agg #[.int .u8 (pbV (nzP (p) (lessV (a) (m))) (1) (decide (m ≤ a))), .int .u8 (pbV (nzS (s) ((x) || (y))) (1) ((x) || (y)))]), (none, fun _ => undef)] (fun D bq w => Mem _ _ _ w (cond (D 13) ((bq 13, #[.int .u8 (a), .bool (x), .int .u8 (m), .bool (y)]) :: [(R4, cond (D 16) #[.int .u8 (pbV (nzP (p) (lessV (a) (m))) (1) (decide (m ≤ a))), .int .u8 (pbV (nzS (s) ((x) || (y))) (1) ((x) || (y)))] (#[.int .u8 (0), .int .u8 (0)])), (R3, #[.int .u8 (m), .bool (y)]), (R2, #[.int .u8 (a), .bool (x)]), (R1, #[.int .u8 (p), .int .u8 (s)])]) [(R4, cond (D 16) #[.int .u8 (pbV (nzP (p) (lessV (a) (m))) (1) (decide (m ≤ a))), .int .u8 (pbV (nzS (s) ((x) || (y))) (1) ((x) || (y)))] (#[.int .u8 (0), .int .u8 (0)])), (R3, #[.int .u8 (m), .bool (y)]), (R2, #[.int .u8 (a), .bool (x)]), (R1, #[.int .u8 (p), .int .u8 (s)])])) 23 (by rfl) (by rfl) (by rfl) H.drew ⟨⟨rfl, ?p0⟩, ⟨rfl, ?p1⟩, ⟨rfl, ?p2⟩, ⟨rfl, ?p3⟩, ⟨rfl, ?p4⟩, ⟨rfl, ?p5⟩, ⟨rfl, ?p6⟩, ⟨rfl, ?p7⟩, ⟨rfl, ?p8⟩, ⟨rfl, ?p9⟩, ⟨rfl, ?p10⟩, ⟨rfl, ?p11⟩, ⟨rfl, ?p12⟩, ⟨rfl, ?p13⟩, ⟨rfl, ?p14⟩, ⟨rfl, ?p15⟩, ⟨rfl, ?p16⟩, trivial⟩ ?_
  case p0 =>
    intro D bq a' w' hk hc he hl hW
    (try dsimp only at hW)
    have f3 : a'.tmps.getD 3 undef = .pointer (some ⟨R1, 0, none⟩) := (hl 3).trans ((vsx_no rfl).trans rfl)
    exact wp_sloadA _ _ rfl _ f3 3 (Mem.condB hW) #[.int .u8 (p), .int .u8 (s)] rfl (by kernel_rfl) (by kernel_rfl) ⟨0, rfl, hW⟩
  case p1 =>
    intro D bq a' w' hk hc he hl hW
    (try dsimp only at hW)
    have f4 : a'.tmps.getD 4 undef = .pointer (some ⟨R2, 0, none⟩) := (hl 4).trans ((vsx_no rfl).trans rfl)
    exact wp_sloadA _ _ rfl _ f4 2 (Mem.condB hW) #[.int .u8 (a), .bool (x)] rfl (by kernel_rfl) (by kernel_rfl) ⟨0, rfl, hW⟩
  case p2 =>
    intro D bq a' w' hk hc he hl hW
    (try dsimp only at hW)
    have f5 : a'.tmps.getD 5 undef = .pointer (some ⟨R3, 0, none⟩) := (hl 5).trans ((vsx_no rfl).trans rfl)
    exact wp_sloadA _ _ rfl _ f5 1 (Mem.condB hW) #[.int .u8 (m), .bool (y)] rfl (by kernel_rfl) (by kernel_rfl) ⟨0, rfl, hW⟩
  case p3 =>
    intro D bq a' w' hk hc he hl hW
    (try dsimp only at hW)
    have e1 : a'.tmps.getD 8 undef = .agg #[.int .u8 (a), .bool (x)] := (hl 8).trans (vsx_at (f := fun _ => .agg #[.int .u8 (a), .bool (x)]) rfl (he ⟨1, .data⟩ (by simp) rfl) rfl)
    have e2 : a'.tmps.getD 9 undef = .agg #[.int .u8 (m), .bool (y)] := (hl 9).trans (vsx_at (f := fun _ => .agg #[.int .u8 (m), .bool (y)]) rfl (he ⟨2, .data⟩ (by simp) rfl) rfl)
    refine wp_callp (vals := #[.agg #[.int .u8 (a), .bool (x)], .agg #[.int .u8 (m), .bool (y)]]) rfl rfl (by simp only [List.map_toArray, List.map_cons, List.map_nil, Act.eval, e1, e2]) (by kernel_rfl) (aless_ct (a) (m) (x) (y) w' (by first | assumption | decide | omega) (by first | assumption | decide | omega) (by first | assumption | decide | omega) (by first | assumption | decide | omega)) ?_
    rintro e w2 ⟨rfl, hB⟩
    exact ⟨_, rfl, 0, rfl, Mem.next hW hB⟩
  case p4 =>
    intro D bq a' w' hk hc he hl hW
    (try dsimp only at hW)
    have e0 : a'.tmps.getD 7 undef = .agg #[.int .u8 (p), .int .u8 (s)] := (hl 7).trans (vsx_at (f := fun _ => .agg #[.int .u8 (p), .int .u8 (s)]) rfl (he ⟨0, .data⟩ (by simp) rfl) rfl)
    have e3 : a'.tmps.getD 10 undef = .agg #[.int .u8 (lessV (a) (m)), .bool ((x) || (y))] := (hl 10).trans (vsx_at (f := fun _ => .agg #[.int .u8 (lessV (a) (m)), .bool ((x) || (y))]) rfl (he ⟨3, .data⟩ (by simp) rfl) rfl)
    refine wp_callp (vals := #[.agg #[.int .u8 (p), .int .u8 (s)], .agg #[.int .u8 (lessV (a) (m)), .bool ((x) || (y))]]) rfl rfl (by simp only [List.map_toArray, List.map_cons, List.map_nil, Act.eval, e0, e3]) (by kernel_rfl) (anz_ct (p) (s) (lessV (a) (m)) ((x) || (y)) w' (by first | assumption | decide | omega) (by first | assumption | decide | omega) (by first | assumption | decide | omega) (by first | assumption | decide | omega) (by first | assumption | exact (adcV_le _ _ _).1 | decide | omega) (by first | assumption | exact (adcV_le _ _ _).2 | decide | omega)) ?_
    rintro e w2 ⟨rfl, hB⟩
    exact ⟨_, rfl, 0, rfl, Mem.next hW hB⟩
  case p5 =>
    intro D bq a' w' hk hc he hl hW
    (try dsimp only at hW)
    have f4 : a'.tmps.getD 4 undef = .pointer (some ⟨R2, 0, none⟩) := (hl 4).trans ((vsx_no rfl).trans rfl)
    exact wp_val (.pointer (some ⟨R2, 0, none⟩)) (by simp only [execOp, Act.eval, List.map_toArray, List.map_cons, List.map_nil]; rw [f4]; kernel_rfl) ⟨0, rfl, hW⟩
  case p6 =>
    intro D bq a' w' hk hc he hl hW
    (try dsimp only at hW)
    have e5 : a'.tmps.getD 12 undef = .pointer (some ⟨R2, 0, none⟩) := (hl 12).trans (vsx_at (f := fun _ => .pointer (some ⟨R2, 0, none⟩)) rfl (he ⟨5, .data⟩ (by simp) rfl) rfl)
    exact wp_sload1 _ _ rfl _ _ e5 2 (Mem.condB hW) _ (.int .u8 (a)) rfl rfl (by decide +kernel) ⟨0, rfl, hW⟩
  case p7 =>
    intro D bq a' w' hk hc he hl hW
    (try dsimp only at hW)
    have f5 : a'.tmps.getD 5 undef = .pointer (some ⟨R3, 0, none⟩) := (hl 5).trans ((vsx_no rfl).trans rfl)
    exact wp_val (.pointer (some ⟨R3, 0, none⟩)) (by simp only [execOp, Act.eval, List.map_toArray, List.map_cons, List.map_nil]; rw [f5]; kernel_rfl) ⟨0, rfl, hW⟩
  case p8 =>
    intro D bq a' w' hk hc he hl hW
    (try dsimp only at hW)
    have e7 : a'.tmps.getD 14 undef = .pointer (some ⟨R3, 0, none⟩) := (hl 14).trans (vsx_at (f := fun _ => .pointer (some ⟨R3, 0, none⟩)) rfl (he ⟨7, .data⟩ (by simp) rfl) rfl)
    exact wp_sload1 _ _ rfl _ _ e7 1 (Mem.condB hW) _ (.int .u8 (m)) rfl rfl (by decide +kernel) ⟨0, rfl, hW⟩
  case p9 =>
    intro D bq a' w' hk hc he hl hW
    (try dsimp only at hW)
    have e6 : a'.tmps.getD 13 undef = .int .u8 (a) := (hl 13).trans (vsx_at (f := fun _ => .int .u8 (a)) rfl (he ⟨6, .data⟩ (by simp) rfl) rfl)
    have e8 : a'.tmps.getD 15 undef = .int .u8 (m) := (hl 15).trans (vsx_at (f := fun _ => .int .u8 (m)) rfl (he ⟨8, .data⟩ (by simp) rfl) rfl)
    exact wp_val (.bool (decide (m ≤ a))) (by simp only [execOp, Act.eval, List.map_toArray, List.map_cons, List.map_nil]; rw [e6, e8]; kernel_rfl) ⟨0, rfl, hW⟩
  case p10 =>
    intro D bq a' w' hk hc he hl hW
    (try dsimp only at hW)
    have e9 : a'.tmps.getD 16 undef = .bool (decide (m ≤ a)) := (hl 16).trans (vsx_at (f := fun _ => .bool (decide (m ≤ a))) rfl (he ⟨9, .data⟩ (by simp) rfl) rfl)
    refine wp_callp (vals := #[.bool (decide (m ≤ a))]) rfl rfl (by simp only [List.map_toArray, List.map_cons, List.map_nil, Act.eval, e9]) (by kernel_rfl) (aone_ct (decide (m ≤ a)) w') ?_
    rintro e w2 ⟨rfl, hB⟩
    exact ⟨_, rfl, 0, rfl, Mem.next hW hB⟩
  case p11 =>
    intro D bq a' w' hk hc he hl hW
    (try dsimp only at hW)
    have f4 : a'.tmps.getD 4 undef = .pointer (some ⟨R2, 0, none⟩) := (hl 4).trans ((vsx_no rfl).trans rfl)
    exact wp_sloadA _ _ rfl _ f4 2 (Mem.condB hW) #[.int .u8 (a), .bool (x)] rfl (by kernel_rfl) (by kernel_rfl) ⟨0, rfl, hW⟩
  case p12 =>
    intro D bq a' w' hk hc he hl hW
    (try dsimp only at hW)
    have f5 : a'.tmps.getD 5 undef = .pointer (some ⟨R3, 0, none⟩) := (hl 5).trans ((vsx_no rfl).trans rfl)
    exact wp_sloadA _ _ rfl _ f5 1 (Mem.condB hW) #[.int .u8 (m), .bool (y)] rfl (by kernel_rfl) (by kernel_rfl) ⟨0, rfl, hW⟩
  case p13 =>
    intro D bq a' w' hk hc he hl hW
    (try dsimp only at hW)
    have e11 : a'.tmps.getD 18 undef = .agg #[.int .u8 (a), .bool (x)] := (hl 18).trans (vsx_at (f := fun _ => .agg #[.int .u8 (a), .bool (x)]) rfl (he ⟨11, .data⟩ (by simp) rfl) rfl)
    have e12 : a'.tmps.getD 19 undef = .agg #[.int .u8 (m), .bool (y)] := (hl 19).trans (vsx_at (f := fun _ => .agg #[.int .u8 (m), .bool (y)]) rfl (he ⟨12, .data⟩ (by simp) rfl) rfl)
    have hM := Mem.ofF hk hW
    have hA := fun T => Mem.new hM #[.int .u8 (a), .bool (x), .int .u8 (m), .bool (y)] T
    exact wp_row _ _ _ rfl _ (by simp only [List.map_toArray, List.map_cons, List.map_nil, Act.eval, e11, e12]) _ _ (build_by2 (a) (x) (m) (y)) ⟨_, rfl, hA _⟩
  case p14 =>
    intro D bq a' w' hk hc he hl hW
    (try dsimp only at hW)
    have e10 : a'.tmps.getD 17 undef = .int .u8 (oneI (decide (m ≤ a))) := (hl 17).trans (vsx_at (f := fun _ => .int .u8 (oneI (decide (m ≤ a)))) rfl (he ⟨10, .data⟩ (by simp) rfl) rfl)
    have e13 : a'.tmps.getD 20 undef = .slice (some ⟨bq 13, 0, none⟩) 2 2 := (hl 20).trans (vsx_at (f := fun R => .slice (some ⟨R, 0, none⟩) 2 2) rfl (he ⟨13, .data⟩ (by simp) rfl) rfl)
    have hR := Mem.ofT (he ⟨13, .data⟩ (by simp) rfl) hW
    refine wp_callp (vals := #[.int .u8 (oneI (decide (m ≤ a))), .slice (some ⟨bq 13, 0, none⟩) 2 2]) rfl rfl (by simp only [List.map_toArray, List.map_cons, List.map_nil, Act.eval, e10, e13]) (by kernel_rfl) (of2_ct (oneI (decide (m ≤ a))) (a) (m) (x) (y) hR 0 rfl) ?_
    rintro e w2 ⟨rfl, hB⟩
    exact ⟨_, rfl, 0, rfl, Mem.next hW hB⟩
  case p15 =>
    intro D bq a' w' hk hc he hl hW
    (try dsimp only at hW)
    have e4 : a'.tmps.getD 11 undef = .agg #[.int .u8 (nzP (p) (lessV (a) (m))), .int .u8 (nzS (s) ((x) || (y)))] := (hl 11).trans (vsx_at (f := fun _ => .agg #[.int .u8 (nzP (p) (lessV (a) (m))), .int .u8 (nzS (s) ((x) || (y)))]) rfl (he ⟨4, .data⟩ (by simp) rfl) rfl)
    have e14 : a'.tmps.getD 21 undef = .agg #[.int .u8 (oneI (decide (m ≤ a))), .bool ((x) || (y))] := (hl 21).trans (vsx_at (f := fun _ => .agg #[.int .u8 (oneI (decide (m ≤ a))), .bool ((x) || (y))]) rfl (he ⟨14, .data⟩ (by simp) rfl) rfl)
    refine wp_callp (vals := #[.agg #[.int .u8 (nzP (p) (lessV (a) (m))), .int .u8 (nzS (s) ((x) || (y)))], .int .u8 (1), .agg #[.int .u8 (oneI (decide (m ≤ a))), .bool ((x) || (y))]]) rfl rfl (by simp only [List.map_toArray, List.map_cons, List.map_nil, Act.eval, e4, e14]) (by kernel_rfl) (aset_ct (nzP (p) (lessV (a) (m))) (nzS (s) ((x) || (y))) (1) (oneI (decide (m ≤ a))) (decide (m ≤ a)) ((x) || (y)) (oneI_ne _) w' (by first | assumption | exact (pbV_le _ _ _).1 | decide | omega) (by first | assumption | exact (pbV_le _ _ _).2 | decide | omega) (by first | assumption | exact (pbV_le _ _ _).1 | decide | omega) (by first | assumption | exact (pbV_le _ _ _).2 | decide | omega) (by first | assumption | decide | omega) (by first | assumption | decide | omega)) ?_
    rintro e w2 ⟨rfl, hB⟩
    exact ⟨_, rfl, 0, rfl, Mem.next hW hB⟩
  case p16 =>
    intro D bq a' w' hk hc he hl hW
    (try dsimp only at hW)
    have f6 : a'.tmps.getD 6 undef = .pointer (some ⟨R4, 0, none⟩) := (hl 6).trans ((vsx_no rfl).trans rfl)
    have e15 : a'.tmps.getD 22 undef = .agg #[.int .u8 (pbV (nzP (p) (lessV (a) (m))) (1) (decide (m ≤ a))), .int .u8 (pbV (nzS (s) ((x) || (y))) (1) ((x) || (y)))] := (hl 22).trans (vsx_at (f := fun _ => .agg #[.int .u8 (pbV (nzP (p) (lessV (a) (m))) (1) (decide (m ≤ a))), .int .u8 (pbV (nzS (s) ((x) || (y))) (1) ((x) || (y)))]) rfl (he ⟨15, .data⟩ (by simp) rfl) rfl)
    have hM := hW
    simp only [hk, cond_false] at hM
    exact wp_sstoreAC _ _ _ rfl rfl R4 f6 0 hM #[.int .u8 (0), .int .u8 (0)] #[.int .u8 (pbV (nzP (p) (lessV (a) (m))) (1) (decide (m ≤ a))), .int .u8 (pbV (nzS (s) ((x) || (y))) (1) ((x) || (y)))] rfl e15 (by kernel_rfl) (by rfl) (by kernel_rfl) fun w1 hM1 => ⟨0, rfl, hM1⟩
  intro D bq w' hD hW
  (try dsimp only at hW)
  simp only [hD 13 (by decide), hD 16 (by decide), cond_true] at hW
  clear H hD
  have H := hW
  clear hW
  simp only [putAll, vsOf, Nat.reduceAdd, List.foldl_cons, List.foldl_nil, Act.put, List.setIfInBounds_toArray, List.set_cons_succ, List.set_cons_zero]
  (try generalize bq 13 = q13 at *)
  go_wp2_with (first | go_skip)
  refine ret_mem1 rfl _ rfl 1 H _ rfl (by kernel_rfl) (by kernel_rfl) rfl ?_
  exact ⟨rfl, H.toBelow⟩
end Go.Proofs.YtbonamhinnhlnaaGreatDoor
namespace Go.Proofs.YtbonamhinnhlnaaGreatDoor
open Go.RowKit
set_option linter.unusedSimpArgs false
set_option linter.unusedVariables false
set_option maxRecDepth 20000

set_option maxHeartbeats 2000000 in
theorem aasl_ct (p s b : Int) (x : Bool) (w : World) (p0 : 0 ≤ p) (p1 : p < 256) (s0 : 0 ≤ s) (s1 : s < 256) (b0 : 0 ≤ b) (b1 : b < 256) :
    Calls Tryz.prog 223 #[.agg #[.int .u8 p, .int .u8 s], .agg #[.int .u8 b, .bool x]] w fun e w' => e = .returned (.tuple #[.agg #[.int .u8 (leftV b 0), .bool (x)], .agg #[.int .u8 (leftP p b 0), .int .u8 (rollS s x (false))]]) ∧ Below w.heap.size w w' := by
  have HZF := Lib.hid alloc_fl
  have HZB := Lib.hid alloc_by
  have H := Mem.start w
  have M1 : True := trivial
  have M2 : True := trivial
  have M3 : True := trivial
  have M4 : True := trivial
  go_enter Tryz.func223, Tryz.ntmps223
  go_wp2_with (first | (refine wpList_mboxA rfl _ _ rfl H _ rfl ?_; clear H; (first | (clear M1; intro R1 w1 _ H) | (clear M2; intro R2 w1 _ H) | (clear M3; intro R3 w1 _ H) | (clear M4; intro R4 w1 _ H))) | go_skip | (refine wpList_mnew rfl _ rfl H _ HZF.out ?_; clear H; (first | (clear M1; intro R1 w1 _ H) | (clear M2; intro R2 w1 _ H) | (clear M3; intro R3 w1 _ H) | (clear M4; intro R4 w1 _ H))) | (refine wpList_mnew rfl _ rfl H _ HZB.out ?_; clear H; (first | (clear M1; intro R1 w1 _ H) | (clear M2; intro R2 w1 _ H) | (clear M3; intro R3 w1 _ H) | (clear M4; intro R4 w1 _ H))) | fail)
  (try simp only [Act.put, List.setIfInBounds_toArray, List.set_cons_succ, List.set_cons_zero])
  replace H : Mem w.heap.size [] w _ [(R4, #[.int .u8 (0), .int .u8 (0)]), (R3, #[.int .u8 (0), .bool (false)]), (R2, #[.int .u8 (b), .bool (x)]), (R1, #[.int .u8 (p), .int .u8 (s)])] := H
  refine wp_region_x (by kernel_rfl) (by kernel_rfl) [(some 6, fun _ => .agg #[.int .u8 (p), .int .u8 (s)]), (some 7, fun _ => .agg #[.int .u8 (b), .bool (x)]), (some 8, fun _ => .agg #[.int .u8 (0), .bool (false)]), (some 9, fun _ => .tuple #[.agg #[.int .u8 (leftV (b) (0)), .bool ((x) || (false))], .agg #[.int .u8 (leftP (p) (b) (0)), .int .u8 (rollS (s) (x) (false))]]), (some 10, fun _ => .agg #[.int .u8 (leftV (b) (0)), .bool ((x) || (false))]), (some 11, fun _ => .agg #[.int .u8 (leftP (p) (b) (0)), .int .u8 (rollS (s) (x) (false))]), (none, fun _ => undef), (none, fun _ => undef)] (fun D bq w => Mem _ _ _ w ([(R4, cond (D 7) #[.int .u8 (leftP (p) (b) (0)), .int .u8 (rollS (s) (x) (false))] (#[.int .u8 (0), .int .u8 (0)])), (R3, cond (D 6) #[.int .u8 (leftV (b) (0)), .bool ((x) || (false))] (#[.int .u8 (0), .bool (false)])), (R2, #[.int .u8 (b), .bool (x)]), (R1, #[.int .u8 (p), .int .u8 (s)])])) 12 (by rfl) (by rfl) (by rfl) H.drew ⟨⟨rfl, ?p0⟩, ⟨rfl, ?p1⟩, ⟨rfl, ?p2⟩, ⟨rfl, ?p3⟩, ⟨rfl, ?p4⟩, ⟨rfl, ?p5⟩, ⟨rfl, ?p6⟩, ⟨rfl, ?p7⟩, trivial⟩ ?_
  case p0 =>
    intro D bq a' w' hk hc he hl hW
    (try dsimp only at hW)
    have f2 : a'.tmps.getD 2 undef = .pointer (some ⟨R1, 0, none⟩) := (hl 2).trans ((vsx_no rfl).trans rfl)
    exact wp_sloadA _ _ rfl _ f2 3 hW #[.int .u8 (p), .int .u8 (s)] rfl (by kernel_rfl) (by kernel_rfl) ⟨0, rfl, hW⟩
  case p1 =>
    intro D bq a' w' hk hc he hl hW
    (try dsimp only at hW)
    have f3 : a'.tmps.getD 3 undef = .pointer (some ⟨R2, 0, none⟩) := (hl 3).trans ((vsx_no rfl).trans rfl)
    exact wp_sloadA _ _ rfl _ f3 2 hW #[.int .u8 (b), .bool (x)] rfl (by kernel_rfl) (by kernel_rfl) ⟨0, rfl, hW⟩
  case p2 =>
    intro D bq a' w' hk hc he hl hW
    (try dsimp only at hW)
    refine wp_callp (vals := #[.int .u8 (0)]) rfl rfl (by simp only [List.map_toArray, List.map_cons, List.map_nil, Act.eval]) (by kernel_rfl) (low_ct (0) w') ?_
    rintro e w2 ⟨rfl, hB⟩
    exact ⟨_, rfl, 0, rfl, Mem.next hW hB⟩
  case p3 =>
    intro D bq a' w' hk hc he hl hW
    (try dsimp only at hW)
    have e0 : a'.tmps.getD 6 undef = .agg #[.int .u8 (p), .int .u8 (s)] := (hl 6).trans (vsx_at (f := fun _ => .agg #[.int .u8 (p), .int .u8 (s)]) rfl (he ⟨0, .data⟩ (by simp) rfl) rfl)
    have e1 : a'.tmps.getD 7 undef = .agg #[.int .u8 (b), .bool (x)] := (hl 7).trans (vsx_at (f := fun _ => .agg #[.int .u8 (b), .bool (x)]) rfl (he ⟨1, .data⟩ (by simp) rfl) rfl)
    have e2 : a'.tmps.getD 8 undef = .agg #[.int .u8 (0), .bool (false)] := (hl 8).trans (vsx_at (f := fun _ => .agg #[.int .u8 (0), .bool (false)]) rfl (he ⟨2, .data⟩ (by simp) rfl) rfl)
    refine wp_callp (vals := #[.agg #[.int .u8 (p), .int .u8 (s)], .agg #[.int .u8 (b), .bool (x)], .agg #[.int .u8 (0), .bool (false)]]) rfl rfl (by simp only [List.map_toArray, List.map_cons, List.map_nil, Act.eval, e0, e1, e2]) (by kernel_rfl) (aleft_ct (p) (s) (b) (x) (0) (false) w' (by first | assumption | decide | omega) (by first | assumption | decide | omega) (by first | assumption | decide | omega) (by first | assumption | decide | omega) (by first | assumption | decide | omega) (by first | assumption | decide | omega) (by first | assumption | decide | omega) (by first | assumption | decide | omega)) ?_
    rintro e w2 ⟨rfl, hB⟩
    exact ⟨_, rfl, 0, rfl, Mem.next hW hB⟩
  case p4 =>
    intro D bq a' w' hk hc he hl hW
    (try dsimp only at hW)
    have e3 : a'.tmps.getD 9 undef = .tuple #[.agg #[.int .u8 (leftV (b) (0)), .bool ((x) || (false))], .agg #[.int .u8 (leftP (p) (b) (0)), .int .u8 (rollS (s) (x) (false))]] := (hl 9).trans (vsx_at (f := fun _ => .tuple #[.agg #[.int .u8 (leftV (b) (0)), .bool ((x) || (false))], .agg #[.int .u8 (leftP (p) (b) (0)), .int .u8 (rollS (s) (x) (false))]]) rfl (he ⟨3, .data⟩ (by simp) rfl) rfl)
    exact wp_val (.agg #[.int .u8 (leftV (b) (0)), .bool ((x) || (false))]) (by simp only [execOp, Act.eval, List.map_toArray, List.map_cons, List.map_nil]; rw [e3]; kernel_rfl) ⟨0, rfl, hW⟩
  case p5 =>
    intro D bq a' w' hk hc he hl hW
    (try dsimp only at hW)
    have e3 : a'.tmps.getD 9 undef = .tuple #[.agg #[.int .u8 (leftV (b) (0)), .bool ((x) || (false))], .agg #[.int .u8 (leftP (p) (b) (0)), .int .u8 (rollS (s) (x) (false))]] := (hl 9).trans (vsx_at (f := fun _ => .tuple #[.agg #[.int .u8 (leftV (b) (0)), .bool ((x) || (false))], .agg #[.int .u8 (leftP (p) (b) (0)), .int .u8 (rollS (s) (x) (false))]]) rfl (he ⟨3, .data⟩ (by simp) rfl) rfl)
    exact wp_val (.agg #[.int .u8 (leftP (p) (b) (0)), .int .u8 (rollS (s) (x) (false))]) (by simp only [execOp, Act.eval, List.map_toArray, List.map_cons, List.map_nil]; rw [e3]; kernel_rfl) ⟨0, rfl, hW⟩
  case p6 =>
    intro D bq a' w' hk hc he hl hW
    (try dsimp only at hW)
    have f4 : a'.tmps.getD 4 undef = .pointer (some ⟨R3, 0, none⟩) := (hl 4).trans ((vsx_no rfl).trans rfl)
    have e4 : a'.tmps.getD 10 undef = .agg #[.int .u8 (leftV (b) (0)), .bool ((x) || (false))] := (hl 10).trans (vsx_at (f := fun _ => .agg #[.int .u8 (leftV (b) (0)), .bool ((x) || (false))]) rfl (he ⟨4, .data⟩ (by simp) rfl) rfl)
    have hM := hW
    simp only [hk, cond_false] at hM
    exact wp_sstoreA _ _ _ rfl rfl R3 f4 1 hM #[.int .u8 (0), .bool (false)] #[.int .u8 (leftV (b) (0)), .bool ((x) || (false))] rfl e4 (by kernel_rfl) (by rfl) (by kernel_rfl) fun w1 hM1 => ⟨0, rfl, hM1⟩
  case p7 =>
    intro D bq a' w' hk hc he hl hW
    (try dsimp only at hW)
    have f5 : a'.tmps.getD 5 undef = .pointer (some ⟨R4, 0, none⟩) := (hl 5).trans ((vsx_no rfl).trans rfl)
    have e5 : a'.tmps.getD 11 undef = .agg #[.int .u8 (leftP (p) (b) (0)), .int .u8 (rollS (s) (x) (false))] := (hl 11).trans (vsx_at (f := fun _ => .agg #[.int .u8 (leftP (p) (b) (0)), .int .u8 (rollS (s) (x) (false))]) rfl (he ⟨5, .data⟩ (by simp) rfl) rfl)
    have hM := hW
    simp only [hk, cond_false] at hM
    exact wp_sstoreA _ _ _ rfl rfl R4 f5 0 hM #[.int .u8 (0), .int .u8 (0)] #[.int .u8 (leftP (p) (b) (0)), .int .u8 (rollS (s) (x) (false))] rfl e5 (by kernel_rfl) (by rfl) (by kernel_rfl) fun w1 hM1 => ⟨0, rfl, hM1⟩
  intro D bq w' hD hW
  (try dsimp only at hW)
  simp only [hD 6 (by decide), hD 7 (by decide), cond_true] at hW
  clear H hD
  have H := hW
  clear hW
  simp only [putAll, vsOf, Nat.reduceAdd, List.foldl_cons, List.foldl_nil, Act.put, List.setIfInBounds_toArray, List.set_cons_succ, List.set_cons_zero]
  go_wp2_with (first | go_skip)
  refine ret_memAA rfl _ _ rfl rfl 1 0 H _ _ rfl rfl (by kernel_rfl) (by kernel_rfl) (by kernel_rfl) (by kernel_rfl) rfl ?_
  exact ⟨by first | rfl | simp only [Bool.or_false], H.toBelow⟩
set_option maxHeartbeats 2000000 in
theorem alsr_ct (p s b : Int) (x : Bool) (w : World) (p0 : 0 ≤ p) (p1 : p < 256) (s0 : 0 ≤ s) (s1 : s < 256) (b0 : 0 ≤ b) (b1 : b < 256) :
    Calls Tryz.prog 224 #[.agg #[.int .u8 p, .int .u8 s], .agg #[.int .u8 b, .bool x]] w fun e w' => e = .returned (.tuple #[.agg #[.int .u8 (rightV b 0), .bool (x)], .agg #[.int .u8 (rightP p b 0), .int .u8 (rollS s x (false))]]) ∧ Below w.heap.size w w' := by
  have HZF := Lib.hid alloc_fl
  have HZB := Lib.hid alloc_by
  have H := Mem.start w
  have M1 : True := trivial
  have M2 : True := trivial
  have M3 : True := trivial
  have M4 : True := trivial
  go_enter Tryz.func224, Tryz.ntmps224
  go_wp2_with (first | (refine wpList_mboxA rfl _ _ rfl H _ rfl ?_; clear H; (first | (clear M1; intro R1 w1 _ H) | (clear M2; intro R2 w1 _ H) | (clear M3; intro R3 w1 _ H) | (clear M4; intro R4 w1 _ H))) | go_skip | (refine wpList_mnew rfl _ rfl H _ HZF.out ?_; clear H; (first | (clear M1; intro R1 w1 _ H) | (clear M2; intro R2 w1 _ H) | (clear M3; intro R3 w1 _ H) | (clear M4; intro R4 w1 _ H))) | (refine wpList_mnew rfl _ rfl H _ HZB.out ?_; clear H; (first | (clear M1; intro R1 w1 _ H) | (clear M2; intro R2 w1 _ H) | (clear M3; intro R3 w1 _ H) | (clear M4; intro R4 w1 _ H))) | fail)
  (try simp only [Act.put, List.setIfInBounds_toArray, List.set_cons_succ, List.set_cons_zero])
  replace H : Mem w.heap.size [] w _ [(R4, #[.int .u8 (0), .int .u8 (0)]), (R3, #[.int .u8 (0), .bool (false)]), (R2, #[.int .u8 (b), .bool (x)]), (R1, #[.int .u8 (p), .int .u8 (s)])] := H
  refine wp_region_x (by kernel_rfl) (by kernel_rfl) [(some 6, fun _ => .agg #[.int .u8 (p), .int .u8 (s)]), (some 7, fun _ => .agg #[.int .u8 (b), .bool (x)]), (some 8, fun _ => .agg #[.int .u8 (0), .bool (false)]), (some 9, fun _ => .tuple #[.agg #[.int .u8 (rightV (b) (0)), .bool ((x) || (false))], .agg #[.int .u8 (rightP (p) (b) (0)), .int .u8 (rollS (s) (x) (false))]]), (some 10, fun _ => .agg #[.int .u8 (rightV (b) (0)), .bool ((x) || (false))]), (some 11, fun _ => .agg #[.int .u8 (rightP (p) (b) (0)), .int .u8 (rollS (s) (x) (false))]), (none, fun _ => undef), (none, fun _ => undef)] (fun D bq w => Mem _ _ _ w ([(R4, cond (D 7) #[.int .u8 (rightP (p) (b) (0)), .int .u8 (rollS (s) (x) (false))] (#[.int .u8 (0), .int .u8 (0)])), (R3, cond (D 6) #[.int .u8 (rightV (b) (0)), .bool ((x) || (false))] (#[.int .u8 (0), .bool (false)])), (R2, #[.int .u8 (b), .bool (x)]), (R1, #[.int .u8 (p), .int .u8 (s)])])) 12 (by rfl) (by rfl) (by rfl) H.drew ⟨⟨rfl, ?p0⟩, ⟨rfl, ?p1⟩, ⟨rfl, ?p2⟩, ⟨rfl, ?p3⟩, ⟨rfl, ?p4⟩, ⟨rfl, ?p5⟩, ⟨rfl, ?p6⟩, ⟨rfl, ?p7⟩, trivial⟩ ?_
  case p0 =>
    intro D bq a' w' hk hc he hl hW
    (try dsimp only at hW)
    have f2 : a'.tmps.getD 2 undef = .pointer (some ⟨R1, 0, none⟩) := (hl 2).trans ((vsx_no rfl).trans rfl)
    exact wp_sloadA _ _ rfl _ f2 3 hW #[.int .u8 (p), .int .u8 (s)] rfl (by kernel_rfl) (by kernel_rfl) ⟨0, rfl, hW⟩
  case p1 =>
    intro D bq a' w' hk hc he hl hW
    (try dsimp only at hW)
    have f3 : a'.tmps.getD 3 undef = .pointer (some ⟨R2, 0, none⟩) := (hl 3).trans ((vsx_no rfl).trans rfl)
    exact wp_sloadA _ _ rfl _ f3 2 hW #[.int .u8 (b), .bool (x)] rfl (by kernel_rfl) (by kernel_rfl) ⟨0, rfl, hW⟩
  case p2 =>
    intro D bq a' w' hk hc he hl hW
    (try dsimp only at hW)
    refine wp_callp (vals := #[.int .u8 (0)]) rfl rfl (by simp only [List.map_toArray, List.map_cons, List.map_nil, Act.eval]) (by kernel_rfl) (low_ct (0) w') ?_
    rintro e w2 ⟨rfl, hB⟩
    exact ⟨_, rfl, 0, rfl, Mem.next hW hB⟩
  case p3 =>
    intro D bq a' w' hk hc he hl hW
    (try dsimp only at hW)
    have e0 : a'.tmps.getD 6 undef = .agg #[.int .u8 (p), .int .u8 (s)] := (hl 6).trans (vsx_at (f := fun _ => .agg #[.int .u8 (p), .int .u8 (s)]) rfl (he ⟨0, .data⟩ (by simp) rfl) rfl)
    have e1 : a'.tmps.getD 7 undef = .agg #[.int .u8 (b), .bool (x)] := (hl 7).trans (vsx_at (f := fun _ => .agg #[.int .u8 (b), .bool (x)]) rfl (he ⟨1, .data⟩ (by simp) rfl) rfl)
    have e2 : a'.tmps.getD 8 undef = .agg #[.int .u8 (0), .bool (false)] := (hl 8).trans (vsx_at (f := fun _ => .agg #[.int .u8 (0), .bool (false)]) rfl (he ⟨2, .data⟩ (by simp) rfl) rfl)
    refine wp_callp (vals := #[.agg #[.int .u8 (p), .int .u8 (s)], .agg #[.int .u8 (b), .bool (x)], .agg #[.int .u8 (0), .bool (false)]]) rfl rfl (by simp only [List.map_toArray, List.map_cons, List.map_nil, Act.eval, e0, e1, e2]) (by kernel_rfl) (aright_ct (p) (s) (b) (x) (0) (false) w' (by first | assumption | decide | omega) (by first | assumption | decide | omega) (by first | assumption | decide | omega) (by first | assumption | decide | omega) (by first | assumption | decide | omega) (by first | assumption | decide | omega) (by first | assumption | decide | omega) (by first | assumption | decide | omega)) ?_
    rintro e w2 ⟨rfl, hB⟩
    exact ⟨_, rfl, 0, rfl, Mem.next hW hB⟩
  case p4 =>
    intro D bq a' w' hk hc he hl hW
    (try dsimp only at hW)
    have e3 : a'.tmps.getD 9 undef = .tuple #[.agg #[.int .u8 (rightV (b) (0)), .bool ((x) || (false))], .agg #[.int .u8 (rightP (p) (b) (0)), .int .u8 (rollS (s) (x) (false))]] := (hl 9).trans (vsx_at (f := fun _ => .tuple #[.agg #[.int .u8 (rightV (b) (0)), .bool ((x) || (false))], .agg #[.int .u8 (rightP (p) (b) (0)), .int .u8 (rollS (s) (x) (false))]]) rfl (he ⟨3, .data⟩ (by simp) rfl) rfl)
    exact wp_val (.agg #[.int .u8 (rightV (b) (0)), .bool ((x) || (false))]) (by simp only [execOp, Act.eval, List.map_toArray, List.map_cons, List.map_nil]; rw [e3]; kernel_rfl) ⟨0, rfl, hW⟩
  case p5 =>
    intro D bq a' w' hk hc he hl hW
    (try dsimp only at hW)
    have e3 : a'.tmps.getD 9 undef = .tuple #[.agg #[.int .u8 (rightV (b) (0)), .bool ((x) || (false))], .agg #[.int .u8 (rightP (p) (b) (0)), .int .u8 (rollS (s) (x) (false))]] := (hl 9).trans (vsx_at (f := fun _ => .tuple #[.agg #[.int .u8 (rightV (b) (0)), .bool ((x) || (false))], .agg #[.int .u8 (rightP (p) (b) (0)), .int .u8 (rollS (s) (x) (false))]]) rfl (he ⟨3, .data⟩ (by simp) rfl) rfl)
    exact wp_val (.agg #[.int .u8 (rightP (p) (b) (0)), .int .u8 (rollS (s) (x) (false))]) (by simp only [execOp, Act.eval, List.map_toArray, List.map_cons, List.map_nil]; rw [e3]; kernel_rfl) ⟨0, rfl, hW⟩
  case p6 =>
    intro D bq a' w' hk hc he hl hW
    (try dsimp only at hW)
    have f4 : a'.tmps.getD 4 undef = .pointer (some ⟨R3, 0, none⟩) := (hl 4).trans ((vsx_no rfl).trans rfl)
    have e4 : a'.tmps.getD 10 undef = .agg #[.int .u8 (rightV (b) (0)), .bool ((x) || (false))] := (hl 10).trans (vsx_at (f := fun _ => .agg #[.int .u8 (rightV (b) (0)), .bool ((x) || (false))]) rfl (he ⟨4, .data⟩ (by simp) rfl) rfl)
    have hM := hW
    simp only [hk, cond_false] at hM
    exact wp_sstoreA _ _ _ rfl rfl R3 f4 1 hM #[.int .u8 (0), .bool (false)] #[.int .u8 (rightV (b) (0)), .bool ((x) || (false))] rfl e4 (by kernel_rfl) (by rfl) (by kernel_rfl) fun w1 hM1 => ⟨0, rfl, hM1⟩
  case p7 =>
    intro D bq a' w' hk hc he hl hW
    (try dsimp only at hW)
    have f5 : a'.tmps.getD 5 undef = .pointer (some ⟨R4, 0, none⟩) := (hl 5).trans ((vsx_no rfl).trans rfl)
    have e5 : a'.tmps.getD 11 undef = .agg #[.int .u8 (rightP (p) (b) (0)), .int .u8 (rollS (s) (x) (false))] := (hl 11).trans (vsx_at (f := fun _ => .agg #[.int .u8 (rightP (p) (b) (0)), .int .u8 (rollS (s) (x) (false))]) rfl (he ⟨5, .data⟩ (by simp) rfl) rfl)
    have hM := hW
    simp only [hk, cond_false] at hM
    exact wp_sstoreA _ _ _ rfl rfl R4 f5 0 hM #[.int .u8 (0), .int .u8 (0)] #[.int .u8 (rightP (p) (b) (0)), .int .u8 (rollS (s) (x) (false))] rfl e5 (by kernel_rfl) (by rfl) (by kernel_rfl) fun w1 hM1 => ⟨0, rfl, hM1⟩
  intro D bq w' hD hW
  (try dsimp only at hW)
  simp only [hD 6 (by decide), hD 7 (by decide), cond_true] at hW
  clear H hD
  have H := hW
  clear hW
  simp only [putAll, vsOf, Nat.reduceAdd, List.foldl_cons, List.foldl_nil, Act.put, List.setIfInBounds_toArray, List.set_cons_succ, List.set_cons_zero]
  go_wp2_with (first | go_skip)
  refine ret_memAA rfl _ _ rfl rfl 1 0 H _ _ rfl rfl (by kernel_rfl) (by kernel_rfl) (by kernel_rfl) (by kernel_rfl) rfl ?_
  exact ⟨by first | rfl | simp only [Bool.or_false], H.toBelow⟩
set_option maxHeartbeats 2000000 in
theorem arol_ct (p s b : Int) (x : Bool) (w : World) (p0 : 0 ≤ p) (p1 : p < 256) (s0 : 0 ≤ s) (s1 : s < 256) (b0 : 0 ≤ b) (b1 : b < 256) :
    Calls Tryz.prog 225 #[.agg #[.int .u8 p, .int .u8 s], .agg #[.int .u8 b, .bool x]] w fun e w' => e = .returned (.tuple #[.agg #[.int .u8 (leftV b (cI p)), .bool (x || hasV s 1)], .agg #[.int .u8 (leftP p b (cI p)), .int .u8 (rollS s x (hasV s 1))]]) ∧ Below w.heap.size w w' := by
  have c0 : (0 : Int) ≤ oneI (hasV p 1) := (oneI_two _).1
  have c1 : oneI (hasV p 1) ≤ 1 := (oneI_two _).2
  have HZF := Lib.hid alloc_fl
  have HZB := Lib.hid alloc_by
  have H := Mem.start w
  have M1 : True := trivial
  have M2 : True := trivial
  have M3 : True := trivial
  have M4 : True := trivial
  go_enter Tryz.func225, Tryz.ntmps225
  go_wp2_with (first | (refine wpList_mboxA rfl _ _ rfl H _ rfl ?_; clear H; (first | (clear M1; intro R1 w1 _ H) | (clear M2; intro R2 w1 _ H) | (clear M3; intro R3 w1 _ H) | (clear M4; intro R4 w1 _ H))) | go_skip | (refine wpList_mnew rfl _ rfl H _ HZF.out ?_; clear H; (first | (clear M1; intro R1 w1 _ H) | (clear M2; intro R2 w1 _ H) | (clear M3; intro R3 w1 _ H) | (clear M4; intro R4 w1 _ H))) | (refine wpList_mnew rfl _ rfl H _ HZB.out ?_; clear H; (first | (clear M1; intro R1 w1 _ H) | (clear M2; intro R2 w1 _ H) | (clear M3; intro R3 w1 _ H) | (clear M4; intro R4 w1 _ H))) | fail)
  (try simp only [Act.put, List.setIfInBounds_toArray, List.set_cons_succ, List.set_cons_zero])
  replace H : Mem w.heap.size [] w _ [(R4, #[.int .u8 (0), .int .u8 (0)]), (R3, #[.int .u8 (0), .bool (false)]), (R2, #[.int .u8 (b), .bool (x)]), (R1, #[.int .u8 (p), .int .u8 (s)])] := H
  refine wp_region_x (by kernel_rfl) (by kernel_rfl) [(some 6, fun _ => .agg #[.int .u8 (p), .int .u8 (s)]), (some 7, fun _ => .agg #[.int .u8 (b), .bool (x)]), (some 8, fun _ => .agg #[.int .u8 (p), .int .u8 (s)]), (some 9, fun _ => .agg #[.int .u8 (oneI (hasV (p) (1))), .bool (hasV (s) (1))]), (some 10, fun _ => .tuple #[.agg #[.int .u8 (leftV (b) (oneI (hasV (p) (1)))), .bool ((x) || (hasV (s) (1)))], .agg #[.int .u8 (leftP (p) (b) (oneI (hasV (p) (1)))), .int .u8 (rollS (s) (x) (hasV (s) (1)))]]), (some 11, fun _ => .agg #[.int .u8 (leftV (b) (oneI (hasV (p) (1)))), .bool ((x) || (hasV (s) (1)))]), (some 12, fun _ => .agg #[.int .u8 (leftP (p) (b) (oneI (hasV (p) (1)))), .int .u8 (rollS (s) (x) (hasV (s) (1)))]), (none, fun _ => undef), (none, fun _ => undef)] (fun D bq w => Mem _ _ _ w ([(R4, cond (D 8) #[.int .u8 (leftP (p) (b) (oneI (hasV (p) (1)))), .int .u8 (rollS (s) (x) (hasV (s) (1)))] (#[.int .u8 (0), .int .u8 (0)])), (R3, cond (D 7) #[.int .u8 (leftV (b) (oneI (hasV (p) (1)))), .bool ((x) || (hasV (s) (1)))] (#[.int .u8 (0), .bool (false)])), (R2, #[.int .u8 (b), .bool (x)]), (R1, #[.int .u8 (p), .int .u8 (s)])])) 13 (by rfl) (by rfl) (by rfl) H.drew ⟨⟨rfl, ?p0⟩, ⟨rfl, ?p1⟩, ⟨rfl, ?p2⟩, ⟨rfl, ?p3⟩, ⟨rfl, ?p4⟩, ⟨rfl, ?p5⟩, ⟨rfl, ?p6⟩, ⟨rfl, ?p7⟩, ⟨rfl, ?p8⟩, trivial⟩ ?_
  case p0 =>
    intro D bq a' w' hk hc he hl hW
    (try dsimp only at hW)
    have f2 : a'.tmps.getD 2 undef = .pointer (some ⟨R1, 0, none⟩) := (hl 2).trans ((vsx_no rfl).trans rfl)
    exact wp_sloadA _ _ rfl _ f2 3 hW #[.int .u8 (p), .int .u8 (s)] rfl (by kernel_rfl) (by kernel_rfl) ⟨0, rfl, hW⟩
  case p1 =>
    intro D bq a' w' hk hc he hl hW
    (try dsimp only at hW)
    have f3 : a'.tmps.getD 3 undef = .pointer (some ⟨R2, 0, none⟩) := (hl 3).trans ((vsx_no rfl).trans rfl)
    exact wp_sloadA _ _ rfl _ f3 2 hW #[.int .u8 (b), .bool (x)] rfl (by kernel_rfl) (by kernel_rfl) ⟨0, rfl, hW⟩
  case p2 =>
    intro D bq a' w' hk hc he hl hW
    (try dsimp only at hW)
    have f2 : a'.tmps.getD 2 undef = .pointer (some ⟨R1, 0, none⟩) := (hl 2).trans ((vsx_no rfl).trans rfl)
    exact wp_sloadA _ _ rfl _ f2 3 hW #[.int .u8 (p), .int .u8 (s)] rfl (by kernel_rfl) (by kernel_rfl) ⟨0, rfl, hW⟩
  case p3 =>
    intro D bq a' w' hk hc he hl hW
    (try dsimp only at hW)
    have e2 : a'.tmps.getD 8 undef = .agg #[.int .u8 (p), .int .u8 (s)] := (hl 8).trans (vsx_at (f := fun _ => .agg #[.int .u8 (p), .int .u8 (s)]) rfl (he ⟨2, .data⟩ (by simp) rfl) rfl)
    refine wp_callp (vals := #[.agg #[.int .u8 (p), .int .u8 (s)], .int .u8 (1)]) rfl rfl (by simp only [List.map_toArray, List.map_cons, List.map_nil, Act.eval, e2]) (by kernel_rfl) (aget_ct (p) (s) (1) w' (by first | assumption | decide | omega) (by first | assumption | decide | omega) (by first | assumption | decide | omega) (by first | assumption | decide | omega) (by first | assumption | decide | omega) (by first | assumption | decide | omega)) ?_
    rintro e w2 ⟨rfl, hB⟩
    exact ⟨_, rfl, 0, rfl, Mem.next hW hB⟩
  case p4 =>
    intro D bq a' w' hk hc he hl hW
    (try dsimp only at hW)
    have e0 : a'.tmps.getD 6 undef = .agg #[.int .u8 (p), .int .u8 (s)] := (hl 6).trans (vsx_at (f := fun _ => .agg #[.int .u8 (p), .int .u8 (s)]) rfl (he ⟨0, .data⟩ (by simp) rfl) rfl)
    have e1 : a'.tmps.getD 7 undef = .agg #[.int .u8 (b), .bool (x)] := (hl 7).trans (vsx_at (f := fun _ => .agg #[.int .u8 (b), .bool (x)]) rfl (he ⟨1, .data⟩ (by simp) rfl) rfl)
    have e3 : a'.tmps.getD 9 undef = .agg #[.int .u8 (oneI (hasV (p) (1))), .bool (hasV (s) (1))] := (hl 9).trans (vsx_at (f := fun _ => .agg #[.int .u8 (oneI (hasV (p) (1))), .bool (hasV (s) (1))]) rfl (he ⟨3, .data⟩ (by simp) rfl) rfl)
    refine wp_callp (vals := #[.agg #[.int .u8 (p), .int .u8 (s)], .agg #[.int .u8 (b), .bool (x)], .agg #[.int .u8 (oneI (hasV (p) (1))), .bool (hasV (s) (1))]]) rfl rfl (by simp only [List.map_toArray, List.map_cons, List.map_nil, Act.eval, e0, e1, e3]) (by kernel_rfl) (aleft_ct (p) (s) (b) (x) (oneI (hasV (p) (1))) (hasV (s) (1)) w' (by first | assumption | decide | omega) (by first | assumption | decide | omega) (by first | assumption | decide | omega) (by first | assumption | decide | omega) (by first | assumption | decide | omega) (by first | assumption | decide | omega) (by first | assumption | decide | omega) (by first | assumption | decide | omega)) ?_
    rintro e w2 ⟨rfl, hB⟩
    exact ⟨_, rfl, 0, rfl, Mem.next hW hB⟩
  case p5 =>
    intro D bq a' w' hk hc he hl hW
    (try dsimp only at hW)
    have e4 : a'.tmps.getD 10 undef = .tuple #[.agg #[.int .u8 (leftV (b) (oneI (hasV (p) (1)))), .bool ((x) || (hasV (s) (1)))], .agg #[.int .u8 (leftP (p) (b) (oneI (hasV (p) (1)))), .int .u8 (rollS (s) (x) (hasV (s) (1)))]] := (hl 10).trans (vsx_at (f := fun _ => .tuple #[.agg #[.int .u8 (leftV (b) (oneI (hasV (p) (1)))), .bool ((x) || (hasV (s) (1)))], .agg #[.int .u8 (leftP (p) (b) (oneI (hasV (p) (1)))), .int .u8 (rollS (s) (x) (hasV (s) (1)))]]) rfl (he ⟨4, .data⟩ (by simp) rfl) rfl)
    exact wp_val (.agg #[.int .u8 (leftV (b) (oneI (hasV (p) (1)))), .bool ((x) || (hasV (s) (1)))]) (by simp only [execOp, Act.eval, List.map_toArray, List.map_cons, List.map_nil]; rw [e4]; kernel_rfl) ⟨0, rfl, hW⟩
  case p6 =>
    intro D bq a' w' hk hc he hl hW
    (try dsimp only at hW)
    have e4 : a'.tmps.getD 10 undef = .tuple #[.agg #[.int .u8 (leftV (b) (oneI (hasV (p) (1)))), .bool ((x) || (hasV (s) (1)))], .agg #[.int .u8 (leftP (p) (b) (oneI (hasV (p) (1)))), .int .u8 (rollS (s) (x) (hasV (s) (1)))]] := (hl 10).trans (vsx_at (f := fun _ => .tuple #[.agg #[.int .u8 (leftV (b) (oneI (hasV (p) (1)))), .bool ((x) || (hasV (s) (1)))], .agg #[.int .u8 (leftP (p) (b) (oneI (hasV (p) (1)))), .int .u8 (rollS (s) (x) (hasV (s) (1)))]]) rfl (he ⟨4, .data⟩ (by simp) rfl) rfl)
    exact wp_val (.agg #[.int .u8 (leftP (p) (b) (oneI (hasV (p) (1)))), .int .u8 (rollS (s) (x) (hasV (s) (1)))]) (by simp only [execOp, Act.eval, List.map_toArray, List.map_cons, List.map_nil]; rw [e4]; kernel_rfl) ⟨0, rfl, hW⟩
  case p7 =>
    intro D bq a' w' hk hc he hl hW
    (try dsimp only at hW)
    have f4 : a'.tmps.getD 4 undef = .pointer (some ⟨R3, 0, none⟩) := (hl 4).trans ((vsx_no rfl).trans rfl)
    have e5 : a'.tmps.getD 11 undef = .agg #[.int .u8 (leftV (b) (oneI (hasV (p) (1)))), .bool ((x) || (hasV (s) (1)))] := (hl 11).trans (vsx_at (f := fun _ => .agg #[.int .u8 (leftV (b) (oneI (hasV (p) (1)))), .bool ((x) || (hasV (s) (1)))]) rfl (he ⟨5, .data⟩ (by simp) rfl) rfl)
    have hM := hW
    simp only [hk, cond_false] at hM
    exact wp_sstoreA _ _ _ rfl rfl R3 f4 1 hM #[.int .u8 (0), .bool (false)] #[.int .u8 (leftV (b) (oneI (hasV (p) (1)))), .bool ((x) || (hasV (s) (1)))] rfl e5 (by kernel_rfl) (by rfl) (by kernel_rfl) fun w1 hM1 => ⟨0, rfl, hM1⟩
  case p8 =>
    intro D bq a' w' hk hc he hl hW
    (try dsimp only at hW)
    have f5 : a'.tmps.getD 5 undef = .pointer (some ⟨R4, 0, none⟩) := (hl 5).trans ((vsx_no rfl).trans rfl)
    have e6 : a'.tmps.getD 12 undef = .agg #[.int .u8 (leftP (p) (b) (oneI (hasV (p) (1)))), .int .u8 (rollS (s) (x) (hasV (s) (1)))] := (hl 12).trans (vsx_at (f := fun _ => .agg #[.int .u8 (leftP (p) (b) (oneI (hasV (p) (1)))), .int .u8 (rollS (s) (x) (hasV (s) (1)))]) rfl (he ⟨6, .data⟩ (by simp) rfl) rfl)
    have hM := hW
    simp only [hk, cond_false] at hM
    exact wp_sstoreA _ _ _ rfl rfl R4 f5 0 hM #[.int .u8 (0), .int .u8 (0)] #[.int .u8 (leftP (p) (b) (oneI (hasV (p) (1)))), .int .u8 (rollS (s) (x) (hasV (s) (1)))] rfl e6 (by kernel_rfl) (by rfl) (by kernel_rfl) fun w1 hM1 => ⟨0, rfl, hM1⟩
  intro D bq w' hD hW
  (try dsimp only at hW)
  simp only [hD 7 (by decide), hD 8 (by decide), cond_true] at hW
  clear H hD
  have H := hW
  clear hW
  simp only [putAll, vsOf, Nat.reduceAdd, List.foldl_cons, List.foldl_nil, Act.put, List.setIfInBounds_toArray, List.set_cons_succ, List.set_cons_zero]
  go_wp2_with (first | go_skip)
  refine ret_memAA rfl _ _ rfl rfl 1 0 H _ _ rfl rfl (by kernel_rfl) (by kernel_rfl) (by kernel_rfl) (by kernel_rfl) rfl ?_
  exact ⟨by first | rfl | simp only [Bool.or_false], H.toBelow⟩
set_option maxHeartbeats 2000000 in
theorem aror_ct (p s b : Int) (x : Bool) (w : World) (p0 : 0 ≤ p) (p1 : p < 256) (s0 : 0 ≤ s) (s1 : s < 256) (b0 : 0 ≤ b) (b1 : b < 256) :
    Calls Tryz.prog 226 #[.agg #[.int .u8 p, .int .u8 s], .agg #[.int .u8 b, .bool x]] w fun e w' => e = .returned (.tuple #[.agg #[.int .u8 (rightV b (cI p)), .bool (x || hasV s 1)], .agg #[.int .u8 (rightP p b (cI p)), .int .u8 (rollS s x (hasV s 1))]]) ∧ Below w.heap.size w w' := by
  have c0 : (0 : Int) ≤ oneI (hasV p 1) := (oneI_two _).1
  have c1 : oneI (hasV p 1) ≤ 1 := (oneI_two _).2
  have HZF := Lib.hid alloc_fl
  have HZB := Lib.hid alloc_by
  have H := Mem.start w
  have M1 : True := trivial
  have M2 : True := trivial
  have M3 : True := trivial
  have M4 : True := trivial
  go_enter Tryz.func226, Tryz.ntmps226
  go_wp2_with (first | (refine wpList_mboxA rfl _ _ rfl H _ rfl ?_; clear H; (first | (clear M1; intro R1 w1 _ H) | (clear M2; intro R2 w1 _ H) | (clear M3; intro R3 w1 _ H) | (clear M4; intro R4 w1 _ H))) | go_skip | (refine wpList_mnew rfl _ rfl H _ HZF.out ?_; clear H; (first | (clear M1; intro R1 w1 _ H) | (clear M2; intro R2 w1 _ H) | (clear M3; intro R3 w1 _ H) | (clear M4; intro R4 w1 _ H))) | (refine wpList_mnew rfl _ rfl H _ HZB.out ?_; clear H; (first | (clear M1; intro R1 w1 _ H) | (clear M2; intro R2 w1 _ H) | (clear M3; intro R3 w1 _ H) | (clear M4; intro R4 w1 _ H))) | fail)
  (try simp only [Act.put, List.setIfInBounds_toArray, List.set_cons_succ, List.set_cons_zero])
  replace H : Mem w.heap.size [] w _ [(R4, #[.int .u8 (0), .int .u8 (0)]), (R3, #[.int .u8 (0), .bool (false)]), (R2, #[.int .u8 (b), .bool (x)]), (R1, #[.int .u8 (p), .int .u8 (s)])] := H
  refine wp_region_x (by kernel_rfl) (by kernel_rfl) [(some 6, fun _ => .agg #[.int .u8 (p), .int .u8 (s)]), (some 7, fun _ => .agg #[.int .u8 (b), .bool (x)]), (some 8, fun _ => .agg #[.int .u8 (p), .int .u8 (s)]), (some 9, fun _ => .agg #[.int .u8 (oneI (hasV (p) (1))), .bool (hasV (s) (1))]), (some 10, fun _ => .tuple #[.agg #[.int .u8 (rightV (b) (oneI (hasV (p) (1)))), .bool ((x) || (hasV (s) (1)))], .agg #[.int .u8 (rightP (p) (b) (oneI (hasV (p) (1)))), .int .u8 (rollS (s) (x) (hasV (s) (1)))]]), (some 11, fun _ => .agg #[.int .u8 (rightV (b) (oneI (hasV (p) (1)))), .bool ((x) || (hasV (s) (1)))]), (some 12, fun _ => .agg #[.int .u8 (rightP (p) (b) (oneI (hasV (p) (1)))), .int .u8 (rollS (s) (x) (hasV (s) (1)))]), (none, fun _ => undef), (none, fun _ => undef)] (fun D bq w => Mem _ _ _ w ([(R4, cond (D 8) #[.int .u8 (rightP (p) (b) (oneI (hasV (p) (1)))), .int .u8 (rollS (s) (x) (hasV (s) (1)))] (#[.int .u8 (0), .int .u8 (0)])), (R3, cond (D 7) #[.int .u8 (rightV (b) (oneI (hasV (p) (1)))), .bool ((x) || (hasV (s) (1)))] (#[.int .u8 (0), .bool (false)])), (R2, #[.int .u8 (b), .bool (x)]), (R1, #[.int .u8 (p), .int .u8 (s)])])) 13 (by rfl) (by rfl) (by rfl) H.drew ⟨⟨rfl, ?p0⟩, ⟨rfl, ?p1⟩, ⟨rfl, ?p2⟩, ⟨rfl, ?p3⟩, ⟨rfl, ?p4⟩, ⟨rfl, ?p5⟩, ⟨rfl, ?p6⟩, ⟨rfl, ?p7⟩, ⟨rfl, ?p8⟩, trivial⟩ ?_
  case p0 =>
    intro D bq a' w' hk hc he hl hW
    (try dsimp only at hW)
    have f2 : a'.tmps.getD 2 undef = .pointer (some ⟨R1, 0, none⟩) := (hl 2).trans ((vsx_no rfl).trans rfl)
    exact wp_sloadA _ _ rfl _ f2 3 hW #[.int .u8 (p), .int .u8 (s)] rfl (by kernel_rfl) (by kernel_rfl) ⟨0, rfl, hW⟩
  case p1 =>
    intro D bq a' w' hk hc he hl hW
    (try dsimp only at hW)
    have f3 : a'.tmps.getD 3 undef = .pointer (some ⟨R2, 0, none⟩) := (hl 3).trans ((vsx_no rfl).trans rfl)
    exact wp_sloadA _ _ rfl _ f3 2 hW #[.int .u8 (b), .bool (x)] rfl (by kernel_rfl) (by kernel_rfl) ⟨0, rfl, hW⟩
  case p2 =>
    intro D bq a' w' hk hc he hl hW
    (try dsimp only at hW)
    have f2 : a'.tmps.getD 2 undef = .pointer (some ⟨R1, 0, none⟩) := (hl 2).trans ((vsx_no rfl).trans rfl)
    exact wp_sloadA _ _ rfl _ f2 3 hW #[.int .u8 (p), .int .u8 (s)] rfl (by kernel_rfl) (by kernel_rfl) ⟨0, rfl, hW⟩
  case p3 =>
    intro D bq a' w' hk hc he hl hW
    (try dsimp only at hW)
    have e2 : a'.tmps.getD 8 undef = .agg #[.int .u8 (p), .int .u8 (s)] := (hl 8).trans (vsx_at (f := fun _ => .agg #[.int .u8 (p), .int .u8 (s)]) rfl (he ⟨2, .data⟩ (by simp) rfl) rfl)
    refine wp_callp (vals := #[.agg #[.int .u8 (p), .int .u8 (s)], .int .u8 (1)]) rfl rfl (by simp only [List.map_toArray, List.map_cons, List.map_nil, Act.eval, e2]) (by kernel_rfl) (aget_ct (p) (s) (1) w' (by first | assumption | decide | omega) (by first | assumption | decide | omega) (by first | assumption | decide | omega) (by first | assumption | decide | omega) (by first | assumption | decide | omega) (by first | assumption | decide | omega)) ?_
    rintro e w2 ⟨rfl, hB⟩
    exact ⟨_, rfl, 0, rfl, Mem.next hW hB⟩
  case p4 =>
    intro D bq a' w' hk hc he hl hW
    (try dsimp only at hW)
    have e0 : a'.tmps.getD 6 undef = .agg #[.int .u8 (p), .int .u8 (s)] := (hl 6).trans (vsx_at (f := fun _ => .agg #[.int .u8 (p), .int .u8 (s)]) rfl (he ⟨0, .data⟩ (by simp) rfl) rfl)
    have e1 : a'.tmps.getD 7 undef = .agg #[.int .u8 (b), .bool (x)] := (hl 7).trans (vsx_at (f := fun _ => .agg #[.int .u8 (b), .bool (x)]) rfl (he ⟨1, .data⟩ (by simp) rfl) rfl)
    have e3 : a'.tmps.getD 9 undef = .agg #[.int .u8 (oneI (hasV (p) (1))), .bool (hasV (s) (1))] := (hl 9).trans (vsx_at (f := fun _ => .agg #[.int .u8 (oneI (hasV (p) (1))), .bool (hasV (s) (1))]) rfl (he ⟨3, .data⟩ (by simp) rfl) rfl)
    refine wp_callp (vals := #[.agg #[.int .u8 (p), .int .u8 (s)], .agg #[.int .u8 (b), .bool (x)], .agg #[.int .u8 (oneI (hasV (p) (1))), .bool (hasV (s) (1))]]) rfl rfl (by simp only [List.map_toArray, List.map_cons, List.map_nil, Act.eval, e0, e1, e3]) (by kernel_rfl) (aright_ct (p) (s) (b) (x) (oneI (hasV (p) (1))) (hasV (s) (1)) w' (by first | assumption | decide | omega) (by first | assumption | decide | omega) (by first | assumption | decide | omega) (by first | assumption | decide | omega) (by first | assumption | decide | omega) (by first | assumption | decide | omega) (by first | assumption | decide | omega) (by first | assumption | decide | omega)) ?_
    rintro e w2 ⟨rfl, hB⟩
    exact ⟨_, rfl, 0, rfl, Mem.next hW hB⟩
  case p5 =>
    intro D bq a' w' hk hc he hl hW
    (try dsimp only at hW)
    have e4 : a'.tmps.getD 10 undef = .tuple #[.agg #[.int .u8 (rightV (b) (oneI (hasV (p) (1)))), .bool ((x) || (hasV (s) (1)))], .agg #[.int .u8 (rightP (p) (b) (oneI (hasV (p) (1)))), .int .u8 (rollS (s) (x) (hasV (s) (1)))]] := (hl 10).trans (vsx_at (f := fun _ => .tuple #[.agg #[.int .u8 (rightV (b) (oneI (hasV (p) (1)))), .bool ((x) || (hasV (s) (1)))], .agg #[.int .u8 (rightP (p) (b) (oneI (hasV (p) (1)))), .int .u8 (rollS (s) (x) (hasV (s) (1)))]]) rfl (he ⟨4, .data⟩ (by simp) rfl) rfl)
    exact wp_val (.agg #[.int .u8 (rightV (b) (oneI (hasV (p) (1)))), .bool ((x) || (hasV (s) (1)))]) (by simp only [execOp, Act.eval, List.map_toArray, List.map_cons, List.map_nil]; rw [e4]; kernel_rfl) ⟨0, rfl, hW⟩
  case p6 =>
    intro D bq a' w' hk hc he hl hW
    (try dsimp only at hW)
    have e4 : a'.tmps.getD 10 undef = .tuple #[.agg #[.int .u8 (rightV (b) (oneI (hasV (p) (1)))), .bool ((x) || (hasV (s) (1)))], .agg #[.int .u8 (rightP (p) (b) (oneI (hasV (p) (1)))), .int .u8 (rollS (s) (x) (hasV (s) (1)))]] := (hl 10).trans (vsx_at (f := fun _ => .tuple #[.agg #[.int .u8 (rightV (b) (oneI (hasV (p) (1)))), .bool ((x) || (hasV (s) (1)))], .agg #[.int .u8 (rightP (p) (b) (oneI (hasV (p) (1)))), .int .u8 (rollS (s) (x) (hasV (s) (1)))]]) rfl (he ⟨4, .data⟩ (by simp) rfl) rfl)
    exact wp_val (.agg #[.int .u8 (rightP (p) (b) (oneI (hasV (p) (1)))), .int .u8 (rollS (s) (x) (hasV (s) (1)))]) (by simp only [execOp, Act.eval, List.map_toArray, List.map_cons, List.map_nil]; rw [e4]; kernel_rfl) ⟨0, rfl, hW⟩
  case p7 =>
    intro D bq a' w' hk hc he hl hW
    (try dsimp only at hW)
    have f4 : a'.tmps.getD 4 undef = .pointer (some ⟨R3, 0, none⟩) := (hl 4).trans ((vsx_no rfl).trans rfl)
    have e5 : a'.tmps.getD 11 undef = .agg #[.int .u8 (rightV (b) (oneI (hasV (p) (1)))), .bool ((x) || (hasV (s) (1)))] := (hl 11).trans (vsx_at (f := fun _ => .agg #[.int .u8 (rightV (b) (oneI (hasV (p) (1)))), .bool ((x) || (hasV (s) (1)))]) rfl (he ⟨5, .data⟩ (by simp) rfl) rfl)
    have hM := hW
    simp only [hk, cond_false] at hM
    exact wp_sstoreA _ _ _ rfl rfl R3 f4 1 hM #[.int .u8 (0), .bool (false)] #[.int .u8 (rightV (b) (oneI (hasV (p) (1)))), .bool ((x) || (hasV (s) (1)))] rfl e5 (by kernel_rfl) (by rfl) (by kernel_rfl) fun w1 hM1 => ⟨0, rfl, hM1⟩
  case p8 =>
    intro D bq a' w' hk hc he hl hW
    (try dsimp only at hW)
    have f5 : a'.tmps.getD 5 undef = .pointer (some ⟨R4, 0, none⟩) := (hl 5).trans ((vsx_no rfl).trans rfl)
    have e6 : a'.tmps.getD 12 undef = .agg #[.int .u8 (rightP (p) (b) (oneI (hasV (p) (1)))), .int .u8 (rollS (s) (x) (hasV (s) (1)))] := (hl 12).trans (vsx_at (f := fun _ => .agg #[.int .u8 (rightP (p) (b) (oneI (hasV (p) (1)))), .int .u8 (rollS (s) (x) (hasV (s) (1)))]) rfl (he ⟨6, .data⟩ (by simp) rfl) rfl)
    have hM := hW
    simp only [hk, cond_false] at hM
    exact wp_sstoreA _ _ _ rfl rfl R4 f5 0 hM #[.int .u8 (0), .int .u8 (0)] #[.int .u8 (rightP (p) (b) (oneI (hasV (p) (1)))), .int .u8 (rollS (s) (x) (hasV (s) (1)))] rfl e6 (by kernel_rfl) (by rfl) (by kernel_rfl) fun w1 hM1 => ⟨0, rfl, hM1⟩
  intro D bq w' hD hW
  (try dsimp only at hW)
  simp only [hD 7 (by decide), hD 8 (by decide), cond_true] at hW
  clear H hD
  have H := hW
  clear hW
  simp only [putAll, vsOf, Nat.reduceAdd, List.foldl_cons, List.foldl_nil, Act.put, List.setIfInBounds_toArray, List.set_cons_succ, List.set_cons_zero]
  go_wp2_with (first | go_skip)
  refine ret_memAA rfl _ _ rfl rfl 1 0 H _ _ rfl rfl (by kernel_rfl) (by kernel_rfl) (by kernel_rfl) (by kernel_rfl) rfl ?_
  exact ⟨by first | rfl | simp only [Bool.or_false], H.toBelow⟩
set_option maxHeartbeats 2000000 in
theorem asbx_ct (p s a : Int) (x : Bool) (m : Int) (y : Bool) (w : World) (p0 : 0 ≤ p) (p1 : p < 256) (s0 : 0 ≤ s) (s1 : s < 256) (a0 : 0 ≤ a) (a1 : a < 256) (m0 : 0 ≤ m) (m1 : m < 256) :
    Calls Tryz.prog 236 #[.agg #[.int .u8 p, .int .u8 s], .agg #[.int .u8 a, .bool x], .agg #[.int .u8 m, .bool y]] w fun e w' => e = .returned (.tuple #[.agg #[.int .u8 (lessV a m), .bool (x || y)], .agg #[.int .u8 (lessP p a m), .int .u8 (lessS s (x || y))]]) ∧ Below w.heap.size w w' := by
  have HZF := Lib.hid alloc_fl
  have HZB := Lib.hid alloc_by
  have H := Mem.start w
  have M1 : True := trivial
  have M2 : True := trivial
  have M3 : True := trivial
  have M4 : True := trivial
  have M5 : True := trivial
  go_enter Tryz.func236, Tryz.ntmps236
  go_wp2_with (first | (refine wpList_mboxA rfl _ _ rfl H _ rfl ?_; clear H; (first | (clear M1; intro R1 w1 _ H) | (clear M2; intro R2 w1 _ H) | (clear M3; intro R3 w1 _ H) | (clear M4; intro R4 w1 _ H) | (clear M5; intro R5 w1 _ H))) | go_skip | (refine wpList_mnew rfl _ rfl H _ HZF.out ?_; clear H; (first | (clear M1; intro R1 w1 _ H) | (clear M2; intro R2 w1 _ H) | (clear M3; intro R3 w1 _ H) | (clear M4; intro R4 w1 _ H) | (clear M5; intro R5 w1 _ H))) | (refine wpList_mnew rfl _ rfl H _ HZB.out ?_; clear H; (first | (clear M1; intro R1 w1 _ H) | (clear M2; intro R2 w1 _ H) | (clear M3; intro R3 w1 _ H) | (clear M4; intro R4 w1 _ H) | (clear M5; intro R5 w1 _ H))) | fail)
  (try simp only [Act.put, List.setIfInBounds_toArray, List.set_cons_succ, List.set_cons_zero])
  replace H : Mem w.heap.size [] w _ [(R5, #[.int .u8 (0), .int .u8 (0)]), (R4, #[.int .u8 (0), .bool (false)]), (R3, #[.int .u8 (m), .bool (y)]), (R2, #[.int .u8 (a), .bool (x)]), (R1, #[.int .u8 (p), .int .u8 (s)])] := H
  refine wp_region_x (by kernel_rfl) (by kernel_rfl) [(some 8, fun _ => .agg #[.int .u8 (a), .bool (x)]), (some 9, fun _ => .agg #[.int .u8 (m), .bool (y)]), (some 10, fun _ => .agg #[.int .u8 (lessV (a) (m)), .bool ((x) || (y))]), (some 11, fun _ => .agg #[.int .u8 (p), .int .u8 (s)]), (some 12, fun _ => .agg #[.int .u8 (a), .bool (x)]), (some 13, fun _ => .agg #[.int .u8 (m), .bool (y)]), (some 14, fun _ => .agg #[.int .u8 (lessP (p) (a) (m)), .int .u8 (lessS (s) ((x) || (y)))]), (none, fun _ => undef), (none, fun _ => undef)] (fun D bq w => Mem _ _ _ w ([(R5, cond (D 8) #[.int .u8 (lessP (p) (a) (m)), .int .u8 (lessS (s) ((x) || (y)))] (#[.int .u8 (0), .int .u8 (0)])), (R4, cond (D 7) #[.int .u8 (lessV (a) (m)), .bool ((x) || (y))] (#[.int .u8 (0), .bool (false)])), (R3, #[.int .u8 (m), .bool (y)]), (R2, #[.int .u8 (a), .bool (x)]), (R1, #[.int .u8 (p), .int .u8 (s)])])) 15 (by rfl) (by rfl) (by rfl) H.drew ⟨⟨rfl, ?p0⟩, ⟨rfl, ?p1⟩, ⟨rfl, ?p2⟩, ⟨rfl, ?p3⟩, ⟨rfl, ?p4⟩, ⟨rfl, ?p5⟩, ⟨rfl, ?p6⟩, ⟨rfl, ?p7⟩, ⟨rfl, ?p8⟩, trivial⟩ ?_
  case p0 =>
    intro D bq a' w' hk hc he hl hW
    (try dsimp only at hW)
    have f4 : a'.tmps.getD 4 undef = .pointer (some ⟨R2, 0, none⟩) := (hl 4).trans ((vsx_no rfl).trans rfl)
    exact wp_sloadA _ _ rfl _ f4 3 hW #[.int .u8 (a), .bool (x)] rfl (by kernel_rfl) (by kernel_rfl) ⟨0, rfl, hW⟩
  case p1 =>
    intro D bq a' w' hk hc he hl hW
    (try dsimp only at hW)
    have f5 : a'.tmps.getD 5 undef = .pointer (some ⟨R3, 0, none⟩) := (hl 5).trans ((vsx_no rfl).trans rfl)
    exact wp_sloadA _ _ rfl _ f5 2 hW #[.int .u8 (m), .bool (y)] rfl (by kernel_rfl) (by kernel_rfl) ⟨0, rfl, hW⟩
  case p2 =>
    intro D bq a' w' hk hc he hl hW
    (try dsimp only at hW)
    have e0 : a'.tmps.getD 8 undef = .agg #[.int .u8 (a), .bool (x)] := (hl 8).trans (vsx_at (f := fun _ => .agg #[.int .u8 (a), .bool (x)]) rfl (he ⟨0, .data⟩ (by simp) rfl) rfl)
    have e1 : a'.tmps.getD 9 undef = .agg #[.int .u8 (m), .bool (y)] := (hl 9).trans (vsx_at (f := fun _ => .agg #[.int .u8 (m), .bool (y)]) rfl (he ⟨1, .data⟩ (by simp) rfl) rfl)
    refine wp_callp (vals := #[.agg #[.int .u8 (a), .bool (x)], .agg #[.int .u8 (m), .bool (y)]]) rfl rfl (by simp only [List.map_toArray, List.map_cons, List.map_nil, Act.eval, e0, e1]) (by kernel_rfl) (aless_ct (a) (m) (x) (y) w' (by first | assumption | decide | omega) (by first | assumption | decide | omega) (by first | assumption | decide | omega) (by first | assumption | decide | omega)) ?_
    rintro e w2 ⟨rfl, hB⟩
    exact ⟨_, rfl, 0, rfl, Mem.next hW hB⟩
  case p3 =>
    intro D bq a' w' hk hc he hl hW
    (try dsimp only at hW)
    have f3 : a'.tmps.getD 3 undef = .pointer (some ⟨R1, 0, none⟩) := (hl 3).trans ((vsx_no rfl).trans rfl)
    exact wp_sloadA _ _ rfl _ f3 4 hW #[.int .u8 (p), .int .u8 (s)] rfl (by kernel_rfl) (by kernel_rfl) ⟨0, rfl, hW⟩
  case p4 =>
    intro D bq a' w' hk hc he hl hW
    (try dsimp only at hW)
    have f4 : a'.tmps.getD 4 undef = .pointer (some ⟨R2, 0, none⟩) := (hl 4).trans ((vsx_no rfl).trans rfl)
    exact wp_sloadA _ _ rfl _ f4 3 hW #[.int .u8 (a), .bool (x)] rfl (by kernel_rfl) (by kernel_rfl) ⟨0, rfl, hW⟩
  case p5 =>
    intro D bq a' w' hk hc he hl hW
    (try dsimp only at hW)
    have f5 : a'.tmps.getD 5 undef = .pointer (some ⟨R3, 0, none⟩) := (hl 5).trans ((vsx_no rfl).trans rfl)
    exact wp_sloadA _ _ rfl _ f5 2 hW #[.int .u8 (m), .bool (y)] rfl (by kernel_rfl) (by kernel_rfl) ⟨0, rfl, hW⟩
  case p6 =>
    intro D bq a' w' hk hc he hl hW
    (try dsimp only at hW)
    have e3 : a'.tmps.getD 11 undef = .agg #[.int .u8 (p), .int .u8 (s)] := (hl 11).trans (vsx_at (f := fun _ => .agg #[.int .u8 (p), .int .u8 (s)]) rfl (he ⟨3, .data⟩ (by simp) rfl) rfl)
    have e4 : a'.tmps.getD 12 undef = .agg #[.int .u8 (a), .bool (x)] := (hl 12).trans (vsx_at (f := fun _ => .agg #[.int .u8 (a), .bool (x)]) rfl (he ⟨4, .data⟩ (by simp) rfl) rfl)
    have e5 : a'.tmps.getD 13 undef = .agg #[.int .u8 (m), .bool (y)] := (hl 13).trans (vsx_at (f := fun _ => .agg #[.int .u8 (m), .bool (y)]) rfl (he ⟨5, .data⟩ (by simp) rfl) rfl)
    refine wp_callp (vals := #[.agg #[.int .u8 (p), .int .u8 (s)], .agg #[.int .u8 (a), .bool (x)], .agg #[.int .u8 (m), .bool (y)]]) rfl rfl (by simp only [List.map_toArray, List.map_cons, List.map_nil, Act.eval, e3, e4, e5]) (by kernel_rfl) (acmp_ct (p) (s) (a) (x) (m) (y) w' (by first | assumption | decide | omega) (by first | assumption | decide | omega) (by first | assumption | decide | omega) (by first | assumption | decide | omega) (by first | assumption | decide | omega) (by first | assumption | decide | omega) (by first | assumption | decide | omega) (by first | assumption | decide | omega)) ?_
    rintro e w2 ⟨rfl, hB⟩
    exact ⟨_, rfl, 0, rfl, Mem.next hW hB⟩
  case p7 =>
    intro D bq a' w' hk hc he hl hW
    (try dsimp only at hW)
    have f6 : a'.tmps.getD 6 undef = .pointer (some ⟨R4, 0, none⟩) := (hl 6).trans ((vsx_no rfl).trans rfl)
    have e2 : a'.tmps.getD 10 undef = .agg #[.int .u8 (lessV (a) (m)), .bool ((x) || (y))] := (hl 10).trans (vsx_at (f := fun _ => .agg #[.int .u8 (lessV (a) (m)), .bool ((x) || (y))]) rfl (he ⟨2, .data⟩ (by simp) rfl) rfl)
    have hM := hW
    simp only [hk, cond_false] at hM
    exact wp_sstoreA _ _ _ rfl rfl R4 f6 1 hM #[.int .u8 (0), .bool (false)] #[.int .u8 (lessV (a) (m)), .bool ((x) || (y))] rfl e2 (by kernel_rfl) (by rfl) (by kernel_rfl) fun w1 hM1 => ⟨0, rfl, hM1⟩
  case p8 =>
    intro D bq a' w' hk hc he hl hW
    (try dsimp only at hW)
    have f7 : a'.tmps.getD 7 undef = .pointer (some ⟨R5, 0, none⟩) := (hl 7).trans ((vsx_no rfl).trans rfl)
    have e6 : a'.tmps.getD 14 undef = .agg #[.int .u8 (lessP (p) (a) (m)), .int .u8 (lessS (s) ((x) || (y)))] := (hl 14).trans (vsx_at (f := fun _ => .agg #[.int .u8 (lessP (p) (a) (m)), .int .u8 (lessS (s) ((x) || (y)))]) rfl (he ⟨6, .data⟩ (by simp) rfl) rfl)
    have hM := hW
    simp only [hk, cond_false] at hM
    exact wp_sstoreA _ _ _ rfl rfl R5 f7 0 hM #[.int .u8 (0), .int .u8 (0)] #[.int .u8 (lessP (p) (a) (m)), .int .u8 (lessS (s) ((x) || (y)))] rfl e6 (by kernel_rfl) (by rfl) (by kernel_rfl) fun w1 hM1 => ⟨0, rfl, hM1⟩
  intro D bq w' hD hW
  (try dsimp only at hW)
  simp only [hD 7 (by decide), hD 8 (by decide), cond_true] at hW
  clear H hD
  have H := hW
  clear hW
  simp only [putAll, vsOf, Nat.reduceAdd, List.foldl_cons, List.foldl_nil, Act.put, List.setIfInBounds_toArray, List.set_cons_succ, List.set_cons_zero]
  go_wp2_with (first | go_skip)
  refine ret_memAA rfl _ _ rfl rfl 1 0 H _ _ rfl rfl (by kernel_rfl) (by kernel_rfl) (by kernel_rfl) (by kernel_rfl) rfl ?_
  exact ⟨rfl, H.toBelow⟩
set_option maxHeartbeats 2000000 in
theorem abit_ct (p s a : Int) (x : Bool) (m : Int) (y : Bool) (w : World) (p0 : 0 ≤ p) (p1 : p < 256) (s0 : 0 ≤ s) (s1 : s < 256) (a0 : 0 ≤ a) (a1 : a < 256) (m0 : 0 ≤ m) (m1 : m < 256) :
    Calls Tryz.prog 233 #[.agg #[.int .u8 p, .int .u8 s], .agg #[.int .u8 a, .bool x], .agg #[.int .u8 m, .bool y]] w fun e w' => e = .returned (.agg #[.int .u8 (bitP p a m), .int .u8 (bitS s x y)]) ∧ Below w.heap.size w w' := by
  have KA : ∀ wr : World, Calls Tryz.prog 227 #[.agg #[.int .u8 a, .bool x], .agg #[.int .u8 m, .bool y]] wr fun e w' => e = .returned (.agg #[.int .u8 (bothV a m), .bool (x || y)]) ∧ Below wr.heap.size wr w' := fun wr => and_ct a m x y wr
  have QA := Lib.hid KA
  clear KA
  unfold bitP bitS
  rw [← put_clr p 2 _ p0 p1, ← put_clr s 2 _ s0 s1]
  have HZF := Lib.hid alloc_fl
  have HZB := Lib.hid alloc_by
  have H := Mem.start w
  have M1 : True := trivial
  have M2 : True := trivial
  have M3 : True := trivial
  have M4 : True := trivial
  have M5 : True := trivial
  have M6 : True := trivial
  go_enter Tryz.func233, Tryz.ntmps233
  go_wp2_with (first | (go_at_call 227; (with_reducible refine (QA.out _).mono ?_); rintro e w2 ⟨rfl, hB⟩; replace H := H.next hB; clear hB) | (go_at_call 217; (with_reducible refine (over_ct (p) (s) _ (by first | assumption | decide | omega) (by first | assumption | decide | omega) (by first | assumption | decide | omega) (by first | assumption | decide | omega)).mono ?_); first | (clear M6; rintro e w2 ⟨R6, T0, rfl, hR0, hB, hO⟩; replace H := H.add hB hR0 hO; clear hB hR0 hO)) | (refine wpList_mboxA rfl _ _ rfl H _ rfl ?_; clear H; (first | (clear M1; intro R1 w1 _ H) | (clear M2; intro R2 w1 _ H) | (clear M3; intro R3 w1 _ H) | (clear M4; intro R4 w1 _ H) | (clear M5; intro R5 w1 _ H) | (clear M6; intro R6 w1 _ H))) | go_skip | (refine gate_load _ _ rfl ?_; first | (refine wpList_mloadA rfl _ _ rfl _ rfl 1 H _ rfl (by decide +kernel) (by kernel_rfl) ?_) | (refine wpList_mloadA rfl _ _ rfl _ rfl 2 H _ rfl (by decide +kernel) (by kernel_rfl) ?_) | (refine wpList_mloadA rfl _ _ rfl _ rfl 4 H _ rfl (by decide +kernel) (by kernel_rfl) ?_)) | (refine gate_store _ _ _ rfl ?_; (first | (refine wpList_mstoreA rfl _ _ _ rfl rfl _ rfl 0 H _ _ rfl rfl (by kernel_rfl) (by kernel_rfl) (by kernel_rfl) ?_)); clear H; intro w1 H; simp only [List.set_cons_zero, List.set_cons_succ] at H) | (refine wpList_mnew rfl _ rfl H _ HZF.out ?_; clear H; (first | (clear M1; intro R1 w1 _ H) | (clear M2; intro R2 w1 _ H) | (clear M3; intro R3 w1 _ H) | (clear M4; intro R4 w1 _ H) | (clear M5; intro R5 w1 _ H) | (clear M6; intro R6 w1 _ H))) | (refine wpList_mnew rfl _ rfl H _ HZB.out ?_; clear H; (first | (clear M1; intro R1 w1 _ H) | (clear M2; intro R2 w1 _ H) | (clear M3; intro R3 w1 _ H) | (clear M4; intro R4 w1 _ H) | (clear M5; intro R5 w1 _ H) | (clear M6; intro R6 w1 _ H))) | fail)
  (try simp only [Act.put, List.setIfInBounds_toArray, List.set_cons_succ, List.set_cons_zero])
  replace H : Mem w.heap.size [] w _ [(R6, #[.int .u8 (clr p), .int .u8 (clr s)]), (R5, #[.int .u8 (bothV a m), .bool (x || y)]), (R4, #[.int .u8 (0), .int .u8 (0)]), (R3, #[.int .u8 (m), .bool (y)]), (R2, #[.int .u8 (a), .bool (x)]), (R1, #[.int .u8 (p), .int .u8 (s)])] := H
  refine wp_region_x (by kernel_rfl) (by kernel_rfl) [(some 14, fun _ => .func (.func 238) #[] #[.pointer (some ⟨R6, 0, none⟩)]), (some 15, fun _ => .pointer (some ⟨R5, 0, none⟩)), (some 16, fun _ => .int .u8 (bothV a m)), (some 17, fun _ => .bool (decide ((bothV a m) = 0))), (some 18, fun _ => .int .u8 (oneI (decide ((bothV a m) = 0)))), (some 19, fun _ => .agg #[.int .u8 (bothV a m), .bool (x || y)]), (some 20, fun R => .slice (some ⟨R, 0, none⟩) 1 1), (some 21, fun _ => .agg #[.int .u8 (oneI (decide ((bothV a m) = 0))), .bool ((x || y))]), (some 22, fun _ => .agg #[.int .u8 (pbV (clr p) (2) (decide (bothV a m = 0))), .int .u8 (pbV (clr s) (2) ((x || y)))])] (fun D bq w => Mem _ _ _ w (cond (D 6) ((bq 6, #[.int .u8 (bothV a m), .bool (x || y)]) :: [(R6, cond (D 8) #[.int .u8 (pbV (clr p) (2) (decide (bothV a m = 0))), .int .u8 (pbV (clr s) (2) ((x || y)))] (#[.int .u8 (clr p), .int .u8 (clr s)])), (R5, #[.int .u8 (bothV a m), .bool (x || y)]), (R4, #[.int .u8 (0), .int .u8 (0)]), (R3, #[.int .u8 (m), .bool (y)]), (R2, #[.int .u8 (a), .bool (x)]), (R1, #[.int .u8 (p), .int .u8 (s)])]) [(R6, cond (D 8) #[.int .u8 (pbV (clr p) (2) (decide (bothV a m = 0))), .int .u8 (pbV (clr s) (2) ((x || y)))] (#[.int .u8 (clr p), .int .u8 (clr s)])), (R5, #[.int .u8 (bothV a m), .bool (x || y)]), (R4, #[.int .u8 (0), .int .u8 (0)]), (R3, #[.int .u8 (m), .bool (y)]), (R2, #[.int .u8 (a), .bool (x)]), (R1, #[.int .u8 (p), .int .u8 (s)])])) 31 (by rfl) (by rfl) (by rfl) H.drew ⟨⟨rfl, ?p0⟩, ⟨rfl, ?p1⟩, ⟨rfl, ?p2⟩, ⟨rfl, ?p3⟩, ⟨rfl, ?p4⟩, ⟨rfl, ?p5⟩, ⟨rfl, ?p6⟩, ⟨rfl, ?p7⟩, ⟨rfl, ?p8⟩, trivial⟩ ?_
  case p0 =>
    intro D bq a' w' hk hc he hl hW
    (try dsimp only at hW)
    have f8 : a'.tmps.getD 8 undef = .func (.func 238) #[] #[.pointer (some ⟨R6, 0, none⟩)] := (hl 8).trans ((vsx_no rfl).trans rfl)
    exact wp_val (.func (.func 238) #[] #[.pointer (some ⟨R6, 0, none⟩)]) (by simp only [execOp, Act.eval, List.map_toArray, List.map_cons, List.map_nil]; rw [f8]; kernel_rfl) ⟨0, rfl, hW⟩
  case p1 =>
    intro D bq a' w' hk hc he hl hW
    (try dsimp only at hW)
    have f7 : a'.tmps.getD 7 undef = .pointer (some ⟨R5, 0, none⟩) := (hl 7).trans ((vsx_no rfl).trans rfl)
    exact wp_val (.pointer (some ⟨R5, 0, none⟩)) (by simp only [execOp, Act.eval, List.map_toArray, List.map_cons, List.map_nil]; rw [f7]; kernel_rfl) ⟨0, rfl, hW⟩
  case p2 =>
    intro D bq a' w' hk hc he hl hW
    (try dsimp only at hW)
    have e1 : a'.tmps.getD 15 undef = .pointer (some ⟨R5, 0, none⟩) := (hl 15).trans (vsx_at (f := fun _ => .pointer (some ⟨R5, 0, none⟩)) rfl (he ⟨1, .data⟩ (by simp) rfl) rfl)
    exact wp_sload1 _ _ rfl _ _ e1 1 (Mem.condB hW) _ (.int .u8 (bothV a m)) rfl rfl (by decide +kernel) ⟨0, rfl, hW⟩
  case p3 =>
    intro D bq a' w' hk hc he hl hW
    (try dsimp only at hW)
    have e2 : a'.tmps.getD 16 undef = .int .u8 (bothV a m) := (hl 16).trans (vsx_at (f := fun _ => .int .u8 (bothV a m)) rfl (he ⟨2, .data⟩ (by simp) rfl) rfl)
    exact wp_val (.bool (decide ((bothV a m) = 0))) (by simp only [execOp, Act.eval, List.map_toArray, List.map_cons, List.map_nil]; rw [e2]; kernel_rfl) ⟨0, rfl, hW⟩
  case p4 =>
    intro D bq a' w' hk hc he hl hW
    (try dsimp only at hW)
    have e3 : a'.tmps.getD 17 undef = .bool (decide ((bothV a m) = 0)) := (hl 17).trans (vsx_at (f := fun _ => .bool (decide ((bothV a m) = 0))) rfl (he ⟨3, .data⟩ (by simp) rfl) rfl)
    refine wp_callp (vals := #[.bool (decide ((bothV a m) = 0))]) rfl rfl (by simp only [List.map_toArray, List.map_cons, List.map_nil, Act.eval, e3]) (by kernel_rfl) (aone_ct (decide ((bothV a m) = 0)) w') ?_
    rintro e w2 ⟨rfl, hB⟩
    exact ⟨_, rfl, 0, rfl, Mem.next hW hB⟩
  case p5 =>
    intro D bq a' w' hk hc he hl hW
    (try dsimp only at hW)
    have f7 : a'.tmps.getD 7 undef = .pointer (some ⟨R5, 0, none⟩) := (hl 7).trans ((vsx_no rfl).trans rfl)
    exact wp_sloadA _ _ rfl _ f7 1 (Mem.condB hW) #[.int .u8 (bothV a m), .bool (x || y)] rfl (by kernel_rfl) (by kernel_rfl) ⟨0, rfl, hW⟩
  case p6 =>
    intro D bq a' w' hk hc he hl hW
    (try dsimp only at hW)
    have e5 : a'.tmps.getD 19 undef = .agg #[.int .u8 (bothV a m), .bool (x || y)] := (hl 19).trans (vsx_at (f := fun _ => .agg #[.int .u8 (bothV a m), .bool (x || y)]) rfl (he ⟨5, .data⟩ (by simp) rfl) rfl)
    have hM := Mem.ofF hk hW
    have hA := fun T => Mem.new hM #[.int .u8 (bothV a m), .bool (x || y)] T
    exact wp_row _ _ _ rfl _ (by simp only [List.map_toArray, List.map_cons, List.map_nil, Act.eval, e5]) _ _ (build_by1 (bothV a m) (x || y)) ⟨_, rfl, hA _⟩
  case p7 =>
    intro D bq a' w' hk hc he hl hW
    (try dsimp only at hW)
    have e4 : a'.tmps.getD 18 undef = .int .u8 (oneI (decide ((bothV a m) = 0))) := (hl 18).trans (vsx_at (f := fun _ => .int .u8 (oneI (decide ((bothV a m) = 0)))) rfl (he ⟨4, .data⟩ (by simp) rfl) rfl)
    have e6 : a'.tmps.getD 20 undef = .slice (some ⟨bq 6, 0, none⟩) 1 1 := (hl 20).trans (vsx_at (f := fun R => .slice (some ⟨R, 0, none⟩) 1 1) rfl (he ⟨6, .data⟩ (by simp) rfl) rfl)
    have hR := Mem.ofT (he ⟨6, .data⟩ (by simp) rfl) hW
    refine wp_callp (vals := #[.int .u8 (oneI (decide ((bothV a m) = 0))), .slice (some ⟨bq 6, 0, none⟩) 1 1]) rfl rfl (by simp only [List.map_toArray, List.map_cons, List.map_nil, Act.eval, e4, e6]) (by kernel_rfl) (of1_ct (oneI (decide ((bothV a m) = 0))) (bothV a m) (x || y) hR 0 rfl) ?_
    rintro e w2 ⟨rfl, hB⟩
    exact ⟨_, rfl, 0, rfl, Mem.next hW hB⟩
  case p8 =>
    intro D bq a' w' hk hc he hl hW
    (try dsimp only at hW)
    have e7 : a'.tmps.getD 21 undef = .agg #[.int .u8 (oneI (decide ((bothV a m) = 0))), .bool ((x || y))] := (hl 21).trans (vsx_at (f := fun _ => .agg #[.int .u8 (oneI (decide ((bothV a m) = 0))), .bool ((x || y))]) rfl (he ⟨7, .data⟩ (by simp) rfl) rfl)
    have e0 : a'.tmps.getD 14 undef = .func (.func 238) #[] #[.pointer (some ⟨R6, 0, none⟩)] := (hl 14).trans (vsx_at (f := fun _ => .func (.func 238) #[] #[.pointer (some ⟨R6, 0, none⟩)]) rfl (he ⟨0, .data⟩ (by simp) rfl) rfl)
    have hM := hW
    simp only [hk, cond_false, cond_true] at hM
    obtain ⟨T, hT⟩ := Mem.get (Mem.condB hM) (i := 0) rfl
    refine wp_callc (caps := #[.pointer (some ⟨R6, 0, none⟩)]) (vals := #[.int .u8 (2), .agg #[.int .u8 (oneI (decide ((bothV a m) = 0))), .bool ((x || y))]]) rfl rfl (e0) (by simp only [List.map_toArray, List.map_cons, List.map_nil, Act.eval, e7]) (by kernel_rfl) (by simp only [List.append_toArray, List.cons_append, List.nil_append]) (aput_ct (clr p) (clr s) (2) (oneI (decide ((bothV a m) = 0))) (decide (bothV a m = 0)) ((x || y)) (oneI_ne _) _ T w' (by first | assumption | exact (clr_le _ (by assumption) (by assumption)).1 | decide | omega) (by first | assumption | exact (clr_le _ (by assumption) (by assumption)).2 | decide | omega) (by first | assumption | exact (clr_le _ (by assumption) (by assumption)).1 | decide | omega) (by first | assumption | exact (clr_le _ (by assumption) (by assumption)).2 | decide | omega) (by first | assumption | decide | omega) (by first | assumption | decide | omega) (by first | assumption | exact clr_clr _ | exact clr_put _ _ _ | exact clr_nzP _ _ | exact clr_nzS _ _ | decide) (by first | assumption | exact clr_clr _ | exact clr_put _ _ _ | exact clr_nzP _ _ | exact clr_nzS _ _ | decide) hT) ?_
    rintro e w2 ⟨rfl, hm⟩
    exact ⟨_, rfl, 0, rfl, Mem.callC hM (i := 0) rfl hm⟩
  intro D bq w' hD hW
  (try dsimp only at hW)
  simp only [hD 6 (by decide), hD 8 (by decide), cond_true] at hW
  clear H hD
  have H := hW
  clear hW
  simp only [putAll, vsOf, Nat.reduceAdd, List.foldl_cons, List.foldl_nil, Act.put, List.setIfInBounds_toArray, List.set_cons_succ, List.set_cons_zero]
  (try generalize bq 6 = q6 at *)
  go_wp2_with (first | (go_at_call 234; (with_reducible refine (bit_ct m 7 y _ m0 m1).mono ?_); rintro e w2 ⟨rfl, hB⟩; replace H := H.next hB; clear hB) | (go_at_call 234; (with_reducible refine (bit_ct m 6 y _ m0 m1).mono ?_); rintro e w2 ⟨rfl, hB⟩; replace H := H.next hB; clear hB) | (go_at_call 238; obtain ⟨T0, hT⟩ := H.get (i := 1) rfl; (with_reducible refine (aput_ct (pbV (clr p) 2 (decide (bothV a m = 0))) (pbV (clr s) 2 (x || y)) (128) (bitV m 7) (decide (128 ≤ m)) (y) (top_bit m0 m1) _ _ _ (by first | assumption | exact (pbV_le _ _ _).1 | decide | omega) (by first | assumption | exact (pbV_le _ _ _).2 | decide | omega) (by first | assumption | exact (pbV_le _ _ _).1 | decide | omega) (by first | assumption | exact (pbV_le _ _ _).2 | decide | omega) (by first | assumption | decide | omega) (by first | assumption | decide | omega) (by first | assumption | exact clr_clr _ | exact clr_put _ _ _ | exact clr_nzP _ _ | exact clr_nzS _ _ | decide) (by first | assumption | exact clr_clr _ | exact clr_put _ _ _ | exact clr_nzP _ _ | exact clr_nzS _ _ | decide) hT).mono ?_); rintro e w2 ⟨rfl, hm⟩; replace H := H.call (i := 1) rfl hm; clear hm hT; simp only [List.set_cons_zero, List.set_cons_succ] at H) | (go_at_call 238; obtain ⟨T0, hT⟩ := H.get (i := 1) rfl; (with_reducible refine (aput_ct (pbV (pbV (clr p) 2 (decide (bothV a m = 0))) 128 (decide (128 ≤ m))) (pbV (pbV (clr s) 2 (x || y)) 128 y) (64) (bitV m 6) (decide (m / 64 % 2 = 1)) (y) (six_bit m0 m1) _ _ _ (by first | assumption | exact (pbV_le _ _ _).1 | decide | omega) (by first | assumption | exact (pbV_le _ _ _).2 | decide | omega) (by first | assumption | exact (pbV_le _ _ _).1 | decide | omega) (by first | assumption | exact (pbV_le _ _ _).2 | decide | omega) (by first | assumption | decide | omega) (by first | assumption | decide | omega) (by first | assumption | exact clr_clr _ | exact clr_put _ _ _ | exact clr_nzP _ _ | exact clr_nzS _ _ | decide) (by first | assumption | exact clr_clr _ | exact clr_put _ _ _ | exact clr_nzP _ _ | exact clr_nzS _ _ | decide) hT).mono ?_); rintro e w2 ⟨rfl, hm⟩; replace H := H.call (i := 1) rfl hm; clear hm hT; simp only [List.set_cons_zero, List.set_cons_succ] at H) | go_skip | (refine gate_load _ _ rfl ?_; first | (refine wpList_mloadA rfl _ _ rfl _ rfl 4 H _ rfl (by decide +kernel) (by kernel_rfl) ?_)) | (refine gate_store _ _ _ rfl ?_; (first | (refine wpList_mstoreA rfl _ _ _ rfl rfl _ rfl 3 H _ _ rfl rfl (by kernel_rfl) (by kernel_rfl) (by kernel_rfl) ?_)); clear H; intro w1 H; simp only [List.set_cons_zero, List.set_cons_succ] at H))
  refine ret_mem1 rfl _ rfl 3 H _ rfl (by kernel_rfl) (by kernel_rfl) rfl ?_
  exact ⟨rfl, H.toBelow⟩
end Go.Proofs.YtbonamhinnhlnaaGreatDoor
