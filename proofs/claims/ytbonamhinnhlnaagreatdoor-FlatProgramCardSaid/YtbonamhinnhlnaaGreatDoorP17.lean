/-
  Several texts in one: what is read and written by the functions on the way to the statements. Conditions stand in each theorem.
-/
import Derived.Test.YtbonamhinnhlnaaGreatDoorP15
namespace Go.Proofs.YtbonamhinnhlnaaGreatDoor
open Go.RowKit
set_option linter.unusedSimpArgs false
set_option linter.unusedVariables false
set_option maxRecDepth 20000

set_option maxHeartbeats 2000000 in
theorem atvec1_ct (s : Wk) : CA 134 s (atVec1 s) := by
  intro w
  have HZB := Lib.hid alloc_by
  have HZU := Lib.hid alloc_bus
  have H := Mem.start w
  go_enter Tryz.func134, Tryz.ntmps134
  go_wp2_with (first | (go_at_call 133; (with_reducible refine (atvec_ct _ _).mono ?_); rintro e w2 ⟨rfl, hB⟩; replace H := H.next hB; clear hB) | (refine wpList_mboxA rfl _ _ rfl H _ rfl ?_; clear H; intro _ w1 _ H) | go_skip | (refine gate_load _ _ rfl ?_; first | (refine wpList_mloadA rfl 104 _ rfl _ rfl 1 H (wkC _) rfl (by decide +kernel) (by kernel_rfl) ?_) | (refine wpList_mloadA rfl 36 _ rfl _ rfl 0 H (bsC _) rfl (by decide +kernel) (by kernel_rfl) ?_) | (refine wpList_mload1 rfl _ _ rfl _ _ rfl 0 H _ (.int _ _) rfl rfl (by decide +kernel) ?_)) | (refine gate_store _ _ _ rfl ?_; (first | (refine wpList_mstoreA rfl 36 _ _ rfl rfl _ rfl 0 H (bsC _) _ rfl rfl (by kernel_rfl) (by kernel_rfl) (by kernel_rfl) ?_) | (refine wpList_mstoreA rfl 36 _ _ rfl rfl _ rfl 1 H (bsC _) _ rfl rfl (by kernel_rfl) (by kernel_rfl) (by kernel_rfl) ?_) | (refine wpList_mstore rfl _ _ _ rfl rfl _ _ rfl 0 H _ _ rfl (.int _ _) rfl (by kernel_rfl) (of_decide_eq_true (by kernel_rfl)) (by kernel_rfl) (by first | with_reducible exact sb_Ad _ _) ?_)); clear H; intro w1 H; simp only [List.set_cons_zero, List.set_cons_succ] at H) | (refine wpList_mnew rfl _ rfl H _ HZU.out ?_; clear H; intro _ w1 _ H) | fail)
  (try simp only [IntKind.wrap_u16] at H)
  first | refine ret_mem1 rfl _ rfl 0 H _ rfl (by kernel_rfl) (by kernel_rfl) rfl ?_ | refine ret_mem1 rfl _ rfl 1 H _ rfl (by kernel_rfl) (by kernel_rfl) rfl ?_ | refine ret_mem1 rfl _ rfl 2 H _ rfl (by kernel_rfl) (by kernel_rfl) rfl ?_
  refine ⟨?_, H.toBelow⟩
  first | rfl | (simp [bsC, atStack, pushB, putB, *]; done)

set_option maxHeartbeats 2000000 in
theorem atstack_ct (s : Wk) (F : Fiw s) : CA 123 s (atStack s) := by
  intro w
  obtain ⟨⟨a0, a1, x0, x1, y0, y1, s0, s1, p0, p1, q0, q1, cp, cq, pc0, pc1, op0, op1, ad0, ad1, d0, d1⟩, v0, v1⟩ := F
  clear cp cq
  have HZB := Lib.hid alloc_by
  have HZU := Lib.hid alloc_bus
  have H := Mem.start w
  have MR1 : True := trivial
  have MR2 : True := trivial
  go_enter Tryz.func123, Tryz.ntmps123
  go_wp2_with (first | (refine wpList_mboxA rfl _ _ rfl H _ rfl ?_; clear H; (first | (clear MR1; intro R1 w1 _ H) | (clear MR2; intro R2 w1 _ H))) | go_skip | (refine wpList_mnew rfl _ rfl H _ HZU.out ?_; clear H; (first | (clear MR1; intro R1 w1 _ H) | (clear MR2; intro R2 w1 _ H))) | fail)
  (try simp only [Act.put, List.setIfInBounds_toArray, List.set_cons_succ, List.set_cons_zero])
  refine wp_region_x (by kernel_rfl) (by kernel_rfl) [(some 6, fun _ => .pointer (some ⟨R1, 0, none⟩)), (some 7, fun _ => .pointer (some ⟨R1, 6, none⟩)), (some 8, fun _ => .agg #[.int .u8 ((s).sv), .bool ((s).sb)]), (some 9, fun _ => .agg #[.int .u8 (1), .bool (false)]), (some 10, fun _ => .tuple #[.int .u16 (((s).sv) + 256 * (1)), .bool (((s).sb) || (false))]), (some 5, fun _ => .tuple #[.int .u16 (((s).sv) + 256 * (1)), .bool (((s).sb) || (false))]), (some 11, fun _ => .int .u16 (((s).sv) + 256 * (1))), (some 12, fun _ => .bool (((s).sb) || (false))), (some 3, fun _ => .int .u16 (((s).sv) + 256 * (1))), (some 4, fun _ => .bool (((s).sb) || (false)))] (fun D bq w => Mem _ _ _ w ([(R2, bsC (bs0)), (R1, wkC (s))])) 16 (by rfl) (by rfl) (by rfl) H.drew ⟨⟨rfl, ?p0⟩, ⟨rfl, ?p1⟩, ⟨rfl, ?p2⟩, ⟨rfl, ?p3⟩, ⟨rfl, ?p4⟩, ⟨rfl, ?p5⟩, ⟨rfl, ?p6⟩, ⟨rfl, ?p7⟩, ⟨rfl, ?p8⟩, ⟨rfl, ?p9⟩, trivial⟩ ?_
  case p0 =>
    intro D bq a' w' hk hc he hl hW
    (try dsimp only at hW)
    have f1 : a'.tmps.getD 1 undef = .pointer (some ⟨R1, 0, none⟩) := (hl 1).trans ((vsx_no rfl).trans rfl)
    exact wp_val (.pointer (some ⟨R1, 0, none⟩)) (by simp only [execOp, Act.eval, List.map_toArray, List.map_cons, List.map_nil]; rw [f1]; kernel_rfl) ⟨0, rfl, hW⟩
  case p1 =>
    intro D bq a' w' hk hc he hl hW
    (try dsimp only at hW)
    have e0 : a'.tmps.getD 6 undef = .pointer (some ⟨R1, 0, none⟩) := (hl 6).trans (vsx_at (f := fun _ => .pointer (some ⟨R1, 0, none⟩)) rfl (he ⟨0, .data⟩ (by simp) rfl) rfl)
    exact wp_val (.pointer (some ⟨R1, 6, none⟩)) (by simp only [execOp, Act.eval, List.map_toArray, List.map_cons, List.map_nil]; rw [e0]; kernel_rfl) ⟨0, rfl, hW⟩
  case p2 =>
    intro D bq a' w' hk hc he hl hW
    (try dsimp only at hW)
    have e1 : a'.tmps.getD 7 undef = .pointer (some ⟨R1, 6, none⟩) := (hl 7).trans (vsx_at (f := fun _ => .pointer (some ⟨R1, 6, none⟩)) rfl (he ⟨1, .data⟩ (by simp) rfl) rfl)
    have hM := hW
    exact wp_sload _ _ rfl _ _ e1 1 hM (wkC (s)) (#[.int .u8 ((s).sv), .bool ((s).sb)]) rfl (by kernel_rfl) (by kernel_rfl) (part2 rfl rfl) ⟨0, rfl, hW⟩
  case p3 =>
    intro D bq a' w' hk hc he hl hW
    (try dsimp only at hW)
    refine wp_callp (vals := #[.int .u8 (1)]) rfl rfl (by simp only [List.map_toArray, List.map_cons, List.map_nil, Act.eval]) (by kernel_rfl) (low_ct (1) w') ?_
    rintro e w2 ⟨rfl, hB⟩
    exact ⟨_, rfl, 0, rfl, Mem.next hW hB⟩
  case p4 =>
    intro D bq a' w' hk hc he hl hW
    (try dsimp only at hW)
    have e2 : a'.tmps.getD 8 undef = .agg #[.int .u8 ((s).sv), .bool ((s).sb)] := (hl 8).trans (vsx_at (f := fun _ => .agg #[.int .u8 ((s).sv), .bool ((s).sb)]) rfl (he ⟨2, .data⟩ (by simp) rfl) rfl)
    have e3 : a'.tmps.getD 9 undef = .agg #[.int .u8 (1), .bool (false)] := (hl 9).trans (vsx_at (f := fun _ => .agg #[.int .u8 (1), .bool (false)]) rfl (he ⟨3, .data⟩ (by simp) rfl) rfl)
    refine wp_callp (vals := #[.agg #[.int .u8 ((s).sv), .bool ((s).sb)], .agg #[.int .u8 (1), .bool (false)]]) rfl rfl (by simp only [List.map_toArray, List.map_cons, List.map_nil, Act.eval, e2, e3]) (by kernel_rfl) (word_ct ((s).sv) (1) ((s).sb) (false) w' (by first | assumption | decide | omega) (by first | assumption | decide | omega) (by first | assumption | decide | omega) (by first | assumption | decide | omega)) ?_
    rintro e w2 ⟨rfl, hB⟩
    exact ⟨_, rfl, 0, rfl, Mem.next hW hB⟩
  case p5 =>
    intro D bq a' w' hk hc he hl hW
    (try dsimp only at hW)
    have e4 : a'.tmps.getD 10 undef = .tuple #[.int .u16 (((s).sv) + 256 * (1)), .bool (((s).sb) || (false))] := (hl 10).trans (vsx_at (f := fun _ => .tuple #[.int .u16 (((s).sv) + 256 * (1)), .bool (((s).sb) || (false))]) rfl (he ⟨4, .data⟩ (by simp) rfl) rfl)
    exact wp_val (.tuple #[.int .u16 (((s).sv) + 256 * (1)), .bool (((s).sb) || (false))]) (by simp only [execOp, Act.eval, List.map_toArray, List.map_cons, List.map_nil]; rw [e4]; kernel_rfl) ⟨0, rfl, hW⟩
  case p6 =>
    intro D bq a' w' hk hc he hl hW
    (try dsimp only at hW)
    have e5 : a'.tmps.getD 5 undef = .tuple #[.int .u16 (((s).sv) + 256 * (1)), .bool (((s).sb) || (false))] := (hl 5).trans (vsx_at (f := fun _ => .tuple #[.int .u16 (((s).sv) + 256 * (1)), .bool (((s).sb) || (false))]) rfl (he ⟨5, .data⟩ (by simp) rfl) rfl)
    exact wp_val (.int .u16 (((s).sv) + 256 * (1))) (by simp only [execOp, Act.eval, List.map_toArray, List.map_cons, List.map_nil]; rw [e5]; kernel_rfl) ⟨0, rfl, hW⟩
  case p7 =>
    intro D bq a' w' hk hc he hl hW
    (try dsimp only at hW)
    have e5 : a'.tmps.getD 5 undef = .tuple #[.int .u16 (((s).sv) + 256 * (1)), .bool (((s).sb) || (false))] := (hl 5).trans (vsx_at (f := fun _ => .tuple #[.int .u16 (((s).sv) + 256 * (1)), .bool (((s).sb) || (false))]) rfl (he ⟨5, .data⟩ (by simp) rfl) rfl)
    exact wp_val (.bool (((s).sb) || (false))) (by simp only [execOp, Act.eval, List.map_toArray, List.map_cons, List.map_nil]; rw [e5]; kernel_rfl) ⟨0, rfl, hW⟩
  case p8 =>
    intro D bq a' w' hk hc he hl hW
    (try dsimp only at hW)
    have e6 : a'.tmps.getD 11 undef = .int .u16 (((s).sv) + 256 * (1)) := (hl 11).trans (vsx_at (f := fun _ => .int .u16 (((s).sv) + 256 * (1))) rfl (he ⟨6, .data⟩ (by simp) rfl) rfl)
    exact wp_val (.int .u16 (((s).sv) + 256 * (1))) (by simp only [execOp, Act.eval, List.map_toArray, List.map_cons, List.map_nil]; rw [e6]; kernel_rfl) ⟨0, rfl, hW⟩
  case p9 =>
    intro D bq a' w' hk hc he hl hW
    (try dsimp only at hW)
    have e7 : a'.tmps.getD 12 undef = .bool (((s).sb) || (false)) := (hl 12).trans (vsx_at (f := fun _ => .bool (((s).sb) || (false))) rfl (he ⟨7, .data⟩ (by simp) rfl) rfl)
    exact wp_val (.bool (((s).sb) || (false))) (by simp only [execOp, Act.eval, List.map_toArray, List.map_cons, List.map_nil]; rw [e7]; kernel_rfl) ⟨0, rfl, hW⟩
  intro D bq w' hD hW
  (try dsimp only at hW)
  clear H hD
  have H := hW
  clear hW
  simp only [putAll, vsOf, Nat.reduceAdd, List.foldl_cons, List.foldl_nil, Act.put, List.setIfInBounds_toArray, List.set_cons_succ, List.set_cons_zero]
  go_wp2_with (first | go_skip | (refine gate_store _ _ _ rfl ?_; (first | (refine wpList_mstoreA rfl 36 _ _ rfl rfl _ rfl 0 H (bsC _) _ rfl rfl (by kernel_rfl) (by kernel_rfl) (by kernel_rfl) ?_)); clear H; intro w1 H; simp only [List.set_cons_zero, List.set_cons_succ] at H) | fail)
  first | refine ret_mem1 rfl _ rfl 0 H _ rfl (by kernel_rfl) (by kernel_rfl) rfl ?_ | refine ret_mem1 rfl _ rfl 1 H _ rfl (by kernel_rfl) (by kernel_rfl) rfl ?_
  refine ⟨?_, H.toBelow⟩
  first | rfl | (simp [bsC, atStack, pushB, putB, *]; done)

set_option maxHeartbeats 2000000 in
theorem push_yes (s : Wk) (v : Int) (b : Bool) (F : Fiw s) (h1 : s.md = 17) (h2 : s.intr = 3) (w : World) : Calls Tryz.prog 174 #[.agg (wkC s), .agg #[.int .u8 v, .bool b]] w fun e w' => e = .returned (.agg (bsC (pushB s v b))) ∧ Below w.heap.size w w' := by
  have QS := Lib.hid (atstack_ct s F)
  have e1 : (s.md == 17) = true := by simp [h1]
  have e2 : (s.intr == 3) = true := by simp [h2]
  have HZB := Lib.hid alloc_by
  have HZU := Lib.hid alloc_bus
  have H := Mem.start w
  have MR1 : True := trivial
  have MR2 : True := trivial
  have MR3 : True := trivial
  have MR4 : True := trivial
  go_enter Tryz.func174, Tryz.ntmps174
  go_wp2_with (first | (go_at_call 123; (with_reducible refine (QS.out _).mono ?_); rintro e w2 ⟨rfl, hB⟩; replace H := H.next hB; clear hB) | (refine wpList_mboxA rfl _ _ rfl H _ rfl ?_; clear H; (first | (clear MR1; intro R1 w1 _ H) | (clear MR2; intro R2 w1 _ H) | (clear MR3; intro R3 w1 _ H) | (clear MR4; intro R4 w1 _ H))) | go_skip | (refine gate_load _ _ rfl ?_; first | (refine wpList_mloadA rfl 104 _ rfl _ rfl 2 H (wkC _) rfl (by decide +kernel) (by kernel_rfl) ?_) | (refine wpList_mloadA rfl 36 _ rfl _ rfl 0 H (bsC _) rfl (by decide +kernel) (by kernel_rfl) ?_) | (refine wpList_mload1 rfl _ _ rfl _ _ rfl 3 H _ (.int _ _) rfl rfl (by decide +kernel) ?_)) | (refine gate_store _ _ _ rfl ?_; (first | (refine wpList_mstoreA rfl 36 _ _ rfl rfl _ rfl 0 H (bsC _) _ rfl rfl (by kernel_rfl) (by kernel_rfl) (by kernel_rfl) ?_) | (refine wpList_mstoreA rfl 36 _ _ rfl rfl _ rfl 1 H (bsC _) _ rfl rfl (by kernel_rfl) (by kernel_rfl) (by kernel_rfl) ?_)); clear H; intro w1 H; simp only [List.set_cons_zero, List.set_cons_succ] at H) | (refine wpList_mnew rfl _ rfl H _ HZU.out ?_; clear H; (first | (clear MR1; intro R1 w1 _ H) | (clear MR2; intro R2 w1 _ H) | (clear MR3; intro R3 w1 _ H) | (clear MR4; intro R4 w1 _ H))) | fail)
  first | refine ret_mem1 rfl _ rfl 1 H _ rfl (by kernel_rfl) (by kernel_rfl) rfl ?_
  refine ⟨?_, H.toBelow⟩
  first | rfl | (simp [bsC, atStack, pushB, putB, *]; done)

set_option maxHeartbeats 2000000 in
theorem push_no1 (s : Wk) (v : Int) (b : Bool) (F : Fiw s) (h1 : s.md ≠ 17) (w : World) : Calls Tryz.prog 174 #[.agg (wkC s), .agg #[.int .u8 v, .bool b]] w fun e w' => e = .returned (.agg (bsC (pushB s v b))) ∧ Below w.heap.size w w' := by
  have QS := Lib.hid (atstack_ct s F)
  have e1 : (s.md == 17) = false := by simp [h1]
  have HZB := Lib.hid alloc_by
  have HZU := Lib.hid alloc_bus
  have H := Mem.start w
  have MR1 : True := trivial
  have MR2 : True := trivial
  have MR3 : True := trivial
  have MR4 : True := trivial
  go_enter Tryz.func174, Tryz.ntmps174
  go_wp2_with (first | (go_at_call 123; (with_reducible refine (QS.out _).mono ?_); rintro e w2 ⟨rfl, hB⟩; replace H := H.next hB; clear hB) | (refine wpList_mboxA rfl _ _ rfl H _ rfl ?_; clear H; (first | (clear MR1; intro R1 w1 _ H) | (clear MR2; intro R2 w1 _ H) | (clear MR3; intro R3 w1 _ H) | (clear MR4; intro R4 w1 _ H))) | go_skip | (refine gate_load _ _ rfl ?_; first | (refine wpList_mloadA rfl 104 _ rfl _ rfl 2 H (wkC _) rfl (by decide +kernel) (by kernel_rfl) ?_) | (refine wpList_mload1 rfl _ _ rfl _ _ rfl 3 H _ (.int _ _) rfl rfl (by decide +kernel) ?_)) | (refine gate_store _ _ _ rfl ?_; (first | (refine wpList_mstoreA rfl 36 _ _ rfl rfl _ rfl 0 H (bsC _) _ rfl rfl (by kernel_rfl) (by kernel_rfl) (by kernel_rfl) ?_)); clear H; intro w1 H; simp only [List.set_cons_zero, List.set_cons_succ] at H) | (refine wpList_mnew rfl _ rfl H _ HZU.out ?_; clear H; (first | (clear MR1; intro R1 w1 _ H) | (clear MR2; intro R2 w1 _ H) | (clear MR3; intro R3 w1 _ H) | (clear MR4; intro R4 w1 _ H))) | fail)
  (try simp only [Act.put, List.setIfInBounds_toArray, List.set_cons_succ, List.set_cons_zero])
  refine wp_region_x (by kernel_rfl) (by kernel_rfl) [(some 19, fun _ => .agg #[.int .u8 (v), .bool (b)]), (some 20, fun _ => .pointer (some ⟨R4, 1, none⟩)), (none, fun _ => undef), (some 21, fun _ => .pointer (some ⟨R4, 2, none⟩)), (none, fun _ => undef)] (fun D bq w => Mem _ _ _ w ([(R4, cond (D 4) (bsC (((atStack s).uWr (true)).uV (v) (b))) (cond (D 2) (bsC ((atStack s).uWr (true))) (bsC (atStack s)))), (R3, bsC (bs0)), (R2, #[.int .u8 (v), .bool (b)]), (R1, wkC (s))])) 23 (by rfl) (by rfl) (by rfl) H.drew ⟨⟨rfl, ?p0⟩, ⟨rfl, ?p1⟩, ⟨rfl, ?p2⟩, ⟨rfl, ?p3⟩, ⟨rfl, ?p4⟩, trivial⟩ ?_
  case p0 =>
    intro D bq a' w' hk hc he hl hW
    (try dsimp only at hW)
    have f3 : a'.tmps.getD 3 undef = .pointer (some ⟨R2, 0, none⟩) := (hl 3).trans ((vsx_no rfl).trans rfl)
    have hM := hW
    exact wp_sload _ _ rfl _ _ f3 2 hM (#[.int .u8 (v), .bool (b)]) (#[.int .u8 (v), .bool (b)]) rfl (by kernel_rfl) (by kernel_rfl) (part2 rfl rfl) ⟨0, rfl, hW⟩
  case p1 =>
    intro D bq a' w' hk hc he hl hW
    (try dsimp only at hW)
    have f5 : a'.tmps.getD 5 undef = .pointer (some ⟨R4, 0, none⟩) := (hl 5).trans ((vsx_no rfl).trans rfl)
    exact wp_val (.pointer (some ⟨R4, 1, none⟩)) (by simp only [execOp, Act.eval, List.map_toArray, List.map_cons, List.map_nil]; rw [f5]; kernel_rfl) ⟨0, rfl, hW⟩
  case p2 =>
    intro D bq a' w' hk hc he hl hW
    (try dsimp only at hW)
    have e1 : a'.tmps.getD 20 undef = .pointer (some ⟨R4, 1, none⟩) := (hl 20).trans (vsx_at (f := fun _ => .pointer (some ⟨R4, 1, none⟩)) rfl (he ⟨1, .data⟩ (by simp) rfl) rfl)
    have n4 : D 4 = false := hc.no .chain hk rfl (by simp) rfl
    have hM := hW
    simp only [hk, n4, cond_false, cond_true] at hM
    refine wp_sstore1 _ _ _ rfl rfl R4 1 e1 0 hM (bsC (atStack s)) (bsC ((atStack s).uWr (true))) rfl (.bool (true)) rfl (by kernel_rfl) (of_decide_eq_true (by kernel_rfl)) (by kernel_rfl) (sb_Wr _ _) fun w1 hM1 => ⟨0, rfl, ?_⟩
    (try dsimp only)
    have z4 : doneB D 2 4 = false := n4
    simp only [z4, cond_false]
    exact hM1
  case p3 =>
    intro D bq a' w' hk hc he hl hW
    (try dsimp only at hW)
    have f5 : a'.tmps.getD 5 undef = .pointer (some ⟨R4, 0, none⟩) := (hl 5).trans ((vsx_no rfl).trans rfl)
    exact wp_val (.pointer (some ⟨R4, 2, none⟩)) (by simp only [execOp, Act.eval, List.map_toArray, List.map_cons, List.map_nil]; rw [f5]; kernel_rfl) ⟨0, rfl, hW⟩
  case p4 =>
    intro D bq a' w' hk hc he hl hW
    (try dsimp only at hW)
    have e3 : a'.tmps.getD 21 undef = .pointer (some ⟨R4, 2, none⟩) := (hl 21).trans (vsx_at (f := fun _ => .pointer (some ⟨R4, 2, none⟩)) rfl (he ⟨3, .data⟩ (by simp) rfl) rfl)
    have e0 : a'.tmps.getD 19 undef = .agg #[.int .u8 (v), .bool (b)] := (hl 19).trans (vsx_at (f := fun _ => .agg #[.int .u8 (v), .bool (b)]) rfl (he ⟨0, .data⟩ (by simp) rfl) rfl)
    have y2 : D 2 = true := he ⟨2, .chain⟩ (by simp) rfl
    have hM := hW
    simp only [hk, y2, cond_false, cond_true] at hM
    refine wp_sstore1 _ _ _ rfl rfl R4 2 e3 0 hM (bsC ((atStack s).uWr (true))) (bsC (((atStack s).uWr (true)).uV (v) (b))) rfl (.agg #[.int .u8 (v), .bool (b)]) e0 (by kernel_rfl) (of_decide_eq_true (by kernel_rfl)) (by kernel_rfl) (sb_V _ _ _) fun w1 hM1 => ⟨0, rfl, ?_⟩
    exact hM1
  intro D bq w' hD hW
  (try dsimp only at hW)
  simp only [hD 2 (by decide), hD 4 (by decide), cond_true] at hW
  clear H hD
  have H := hW
  clear hW
  simp only [putAll, vsOf, Nat.reduceAdd, List.foldl_cons, List.foldl_nil, Act.put, List.setIfInBounds_toArray, List.set_cons_succ, List.set_cons_zero]
  go_wp2_with (first | go_skip | (refine gate_load _ _ rfl ?_; first | (refine wpList_mloadA rfl 36 _ rfl _ rfl 0 H (bsC _) rfl (by decide +kernel) (by kernel_rfl) ?_)) | (refine gate_store _ _ _ rfl ?_; (first | (refine wpList_mstoreA rfl 36 _ _ rfl rfl _ rfl 1 H (bsC _) _ rfl rfl (by kernel_rfl) (by kernel_rfl) (by kernel_rfl) ?_)); clear H; intro w1 H; simp only [List.set_cons_zero, List.set_cons_succ] at H) | fail)
  first | refine ret_mem1 rfl _ rfl 1 H _ rfl (by kernel_rfl) (by kernel_rfl) rfl ?_
  refine ⟨?_, H.toBelow⟩
  have hp : pushB s v b = ⟨s.sv + 256 * 1, true, v, b, s.sb⟩ := if_neg (fun h => h1 h.1)
  rw [hp]
  rfl

set_option maxHeartbeats 2000000 in
theorem push_no2 (s : Wk) (v : Int) (b : Bool) (F : Fiw s) (h1 : s.md = 17) (h2 : s.intr ≠ 3) (w : World) : Calls Tryz.prog 174 #[.agg (wkC s), .agg #[.int .u8 v, .bool b]] w fun e w' => e = .returned (.agg (bsC (pushB s v b))) ∧ Below w.heap.size w w' := by
  have QS := Lib.hid (atstack_ct s F)
  have e1 : (s.md == 17) = true := by simp [h1]
  have e2 : (s.intr == 3) = false := by simp [h2]
  have HZB := Lib.hid alloc_by
  have HZU := Lib.hid alloc_bus
  have H := Mem.start w
  have MR1 : True := trivial
  have MR2 : True := trivial
  have MR3 : True := trivial
  have MR4 : True := trivial
  go_enter Tryz.func174, Tryz.ntmps174
  go_wp2_with (first | (go_at_call 123; (with_reducible refine (QS.out _).mono ?_); rintro e w2 ⟨rfl, hB⟩; replace H := H.next hB; clear hB) | (refine wpList_mboxA rfl _ _ rfl H _ rfl ?_; clear H; (first | (clear MR1; intro R1 w1 _ H) | (clear MR2; intro R2 w1 _ H) | (clear MR3; intro R3 w1 _ H) | (clear MR4; intro R4 w1 _ H))) | go_skip | (refine gate_load _ _ rfl ?_; first | (refine wpList_mloadA rfl 104 _ rfl _ rfl 2 H (wkC _) rfl (by decide +kernel) (by kernel_rfl) ?_) | (refine wpList_mload1 rfl _ _ rfl _ _ rfl 3 H _ (.int _ _) rfl rfl (by decide +kernel) ?_)) | (refine gate_store _ _ _ rfl ?_; (first | (refine wpList_mstoreA rfl 36 _ _ rfl rfl _ rfl 0 H (bsC _) _ rfl rfl (by kernel_rfl) (by kernel_rfl) (by kernel_rfl) ?_)); clear H; intro w1 H; simp only [List.set_cons_zero, List.set_cons_succ] at H) | (refine wpList_mnew rfl _ rfl H _ HZU.out ?_; clear H; (first | (clear MR1; intro R1 w1 _ H) | (clear MR2; intro R2 w1 _ H) | (clear MR3; intro R3 w1 _ H) | (clear MR4; intro R4 w1 _ H))) | fail)
  (try simp only [Act.put, List.setIfInBounds_toArray, List.set_cons_succ, List.set_cons_zero])
  refine wp_region_x (by kernel_rfl) (by kernel_rfl) [(some 19, fun _ => .agg #[.int .u8 (v), .bool (b)]), (some 20, fun _ => .pointer (some ⟨R4, 1, none⟩)), (none, fun _ => undef), (some 21, fun _ => .pointer (some ⟨R4, 2, none⟩)), (none, fun _ => undef)] (fun D bq w => Mem _ _ _ w ([(R4, cond (D 4) (bsC (((atStack s).uWr (true)).uV (v) (b))) (cond (D 2) (bsC ((atStack s).uWr (true))) (bsC (atStack s)))), (R3, bsC (bs0)), (R2, #[.int .u8 (v), .bool (b)]), (R1, wkC (s))])) 23 (by rfl) (by rfl) (by rfl) H.drew ⟨⟨rfl, ?p0⟩, ⟨rfl, ?p1⟩, ⟨rfl, ?p2⟩, ⟨rfl, ?p3⟩, ⟨rfl, ?p4⟩, trivial⟩ ?_
  case p0 =>
    intro D bq a' w' hk hc he hl hW
    (try dsimp only at hW)
    have f3 : a'.tmps.getD 3 undef = .pointer (some ⟨R2, 0, none⟩) := (hl 3).trans ((vsx_no rfl).trans rfl)
    have hM := hW
    exact wp_sload _ _ rfl _ _ f3 2 hM (#[.int .u8 (v), .bool (b)]) (#[.int .u8 (v), .bool (b)]) rfl (by kernel_rfl) (by kernel_rfl) (part2 rfl rfl) ⟨0, rfl, hW⟩
  case p1 =>
    intro D bq a' w' hk hc he hl hW
    (try dsimp only at hW)
    have f5 : a'.tmps.getD 5 undef = .pointer (some ⟨R4, 0, none⟩) := (hl 5).trans ((vsx_no rfl).trans rfl)
    exact wp_val (.pointer (some ⟨R4, 1, none⟩)) (by simp only [execOp, Act.eval, List.map_toArray, List.map_cons, List.map_nil]; rw [f5]; kernel_rfl) ⟨0, rfl, hW⟩
  case p2 =>
    intro D bq a' w' hk hc he hl hW
    (try dsimp only at hW)
    have e1 : a'.tmps.getD 20 undef = .pointer (some ⟨R4, 1, none⟩) := (hl 20).trans (vsx_at (f := fun _ => .pointer (some ⟨R4, 1, none⟩)) rfl (he ⟨1, .data⟩ (by simp) rfl) rfl)
    have n4 : D 4 = false := hc.no .chain hk rfl (by simp) rfl
    have hM := hW
    simp only [hk, n4, cond_false, cond_true] at hM
    refine wp_sstore1 _ _ _ rfl rfl R4 1 e1 0 hM (bsC (atStack s)) (bsC ((atStack s).uWr (true))) rfl (.bool (true)) rfl (by kernel_rfl) (of_decide_eq_true (by kernel_rfl)) (by kernel_rfl) (sb_Wr _ _) fun w1 hM1 => ⟨0, rfl, ?_⟩
    (try dsimp only)
    have z4 : doneB D 2 4 = false := n4
    simp only [z4, cond_false]
    exact hM1
  case p3 =>
    intro D bq a' w' hk hc he hl hW
    (try dsimp only at hW)
    have f5 : a'.tmps.getD 5 undef = .pointer (some ⟨R4, 0, none⟩) := (hl 5).trans ((vsx_no rfl).trans rfl)
    exact wp_val (.pointer (some ⟨R4, 2, none⟩)) (by simp only [execOp, Act.eval, List.map_toArray, List.map_cons, List.map_nil]; rw [f5]; kernel_rfl) ⟨0, rfl, hW⟩
  case p4 =>
    intro D bq a' w' hk hc he hl hW
    (try dsimp only at hW)
    have e3 : a'.tmps.getD 21 undef = .pointer (some ⟨R4, 2, none⟩) := (hl 21).trans (vsx_at (f := fun _ => .pointer (some ⟨R4, 2, none⟩)) rfl (he ⟨3, .data⟩ (by simp) rfl) rfl)
    have e0 : a'.tmps.getD 19 undef = .agg #[.int .u8 (v), .bool (b)] := (hl 19).trans (vsx_at (f := fun _ => .agg #[.int .u8 (v), .bool (b)]) rfl (he ⟨0, .data⟩ (by simp) rfl) rfl)
    have y2 : D 2 = true := he ⟨2, .chain⟩ (by simp) rfl
    have hM := hW
    simp only [hk, y2, cond_false, cond_true] at hM
    refine wp_sstore1 _ _ _ rfl rfl R4 2 e3 0 hM (bsC ((atStack s).uWr (true))) (bsC (((atStack s).uWr (true)).uV (v) (b))) rfl (.agg #[.int .u8 (v), .bool (b)]) e0 (by kernel_rfl) (of_decide_eq_true (by kernel_rfl)) (by kernel_rfl) (sb_V _ _ _) fun w1 hM1 => ⟨0, rfl, ?_⟩
    exact hM1
  intro D bq w' hD hW
  (try dsimp only at hW)
  simp only [hD 2 (by decide), hD 4 (by decide), cond_true] at hW
  clear H hD
  have H := hW
  clear hW
  simp only [putAll, vsOf, Nat.reduceAdd, List.foldl_cons, List.foldl_nil, Act.put, List.setIfInBounds_toArray, List.set_cons_succ, List.set_cons_zero]
  go_wp2_with (first | go_skip | (refine gate_load _ _ rfl ?_; first | (refine wpList_mloadA rfl 36 _ rfl _ rfl 0 H (bsC _) rfl (by decide +kernel) (by kernel_rfl) ?_)) | (refine gate_store _ _ _ rfl ?_; (first | (refine wpList_mstoreA rfl 36 _ _ rfl rfl _ rfl 1 H (bsC _) _ rfl rfl (by kernel_rfl) (by kernel_rfl) (by kernel_rfl) ?_)); clear H; intro w1 H; simp only [List.set_cons_zero, List.set_cons_succ] at H) | fail)
  first | refine ret_mem1 rfl _ rfl 1 H _ rfl (by kernel_rfl) (by kernel_rfl) rfl ?_
  refine ⟨?_, H.toBelow⟩
  have hp : pushB s v b = ⟨s.sv + 256 * 1, true, v, b, s.sb⟩ := if_neg (fun h => h2 h.2)
  rw [hp]
  rfl

theorem push_ct (s : Wk) (v : Int) (b : Bool) (F : Fiw s) (w : World) : Calls Tryz.prog 174 #[.agg (wkC s), .agg #[.int .u8 v, .bool b]] w fun e w' => e = .returned (.agg (bsC (pushB s v b))) ∧ Below w.heap.size w w' := by
  by_cases h1 : s.md = 17
  · by_cases h2 : s.intr = 3
    · exact push_yes s v b F h1 h2 w
    · exact push_no2 s v b F h1 h2 w
  · exact push_no1 s v b F h1 w
set_option maxHeartbeats 2000000 in
theorem pushhigh_ct (s : Wk) (F : Fiw s) : CA 125 s (askM .high s) := by
  intro w
  have QP := Lib.hid (fun v b w => push_ct s v b F w)
  obtain ⟨⟨a0, a1, x0, x1, y0, y1, s0, s1, p0, p1, q0, q1, cp, cq, pc0, pc1, op0, op1, ad0, ad1, d0, d1⟩, v0, v1⟩ := F
  clear cp cq
  have HZB := Lib.hid alloc_by
  have HZU := Lib.hid alloc_bus
  have H := Mem.start w
  go_enter Tryz.func125, Tryz.ntmps125
  go_wp2_with (first | (go_at_call 174; (with_reducible refine (QP.out _ _ _).mono ?_); rintro e w2 ⟨rfl, hB⟩; replace H := H.next hB; clear hB) | (go_at_call 173; (with_reducible refine (split_ct _ _ _ (by first | assumption | decide | omega) (by first | assumption | decide | omega)).mono ?_); rintro e w2 ⟨rfl, hB⟩; replace H := H.next hB; clear hB) | (refine wpList_mboxA rfl _ _ rfl H _ rfl ?_; clear H; intro _ w1 _ H) | go_skip | (refine gate_load _ _ rfl ?_; first | (refine wpList_mloadA rfl 23 _ rfl _ rfl 0 H #[.int .u8 _, .bool _] rfl (by decide +kernel) (by kernel_rfl) ?_) | (refine wpList_mloadA rfl 104 _ rfl _ rfl 3 H (wkC _) rfl (by decide +kernel) (by kernel_rfl) ?_) | (refine wpList_mload1 rfl _ _ rfl _ _ rfl 1 H _ (.int _ _) rfl rfl (by decide +kernel) ?_) | (refine wpList_mload1 rfl _ _ rfl _ _ rfl 1 H _ (.bool _) rfl rfl (by decide +kernel) ?_)) | (refine gate_store _ _ _ rfl ?_; (first | (refine wpList_mstoreA rfl 23 _ _ rfl rfl _ rfl 0 H #[.int .u8 _, .bool _] _ rfl rfl (by kernel_rfl) (by kernel_rfl) (by kernel_rfl) ?_) | (refine wpList_mstoreA rfl 23 _ _ rfl rfl _ rfl 1 H #[.int .u8 _, .bool _] _ rfl rfl (by kernel_rfl) (by kernel_rfl) (by kernel_rfl) ?_) | (refine wpList_mstoreA rfl 36 _ _ rfl rfl _ rfl 2 H (bsC _) _ rfl rfl (by kernel_rfl) (by kernel_rfl) (by kernel_rfl) ?_)); clear H; intro w1 H; simp only [List.set_cons_zero, List.set_cons_succ] at H) | (refine wpList_mnew rfl _ rfl H _ HZB.out ?_; clear H; intro _ w1 _ H) | (refine wpList_mnew rfl _ rfl H _ HZU.out ?_; clear H; intro _ w1 _ H) | fail)
  first | refine ret_mem1 rfl _ rfl 2 H _ rfl (by kernel_rfl) (by kernel_rfl) rfl ?_
  refine ⟨?_, H.toBelow⟩
  first | rfl | (simp [bsC, atStack, pushB, putB, *]; done)

set_option maxHeartbeats 2000000 in
theorem pushlow_ct (s : Wk) (F : Fiw s) : CA 127 s (askM .low s) := by
  intro w
  have QP := Lib.hid (fun v b w => push_ct s v b F w)
  obtain ⟨⟨a0, a1, x0, x1, y0, y1, s0, s1, p0, p1, q0, q1, cp, cq, pc0, pc1, op0, op1, ad0, ad1, d0, d1⟩, v0, v1⟩ := F
  clear cp cq
  have HZB := Lib.hid alloc_by
  have HZU := Lib.hid alloc_bus
  have H := Mem.start w
  go_enter Tryz.func127, Tryz.ntmps127
  go_wp2_with (first | (go_at_call 174; (with_reducible refine (QP.out _ _ _).mono ?_); rintro e w2 ⟨rfl, hB⟩; replace H := H.next hB; clear hB) | (go_at_call 173; (with_reducible refine (split_ct _ _ _ (by first | assumption | decide | omega) (by first | assumption | decide | omega)).mono ?_); rintro e w2 ⟨rfl, hB⟩; replace H := H.next hB; clear hB) | (refine wpList_mboxA rfl _ _ rfl H _ rfl ?_; clear H; intro _ w1 _ H) | go_skip | (refine gate_load _ _ rfl ?_; first | (refine wpList_mloadA rfl 23 _ rfl _ rfl 1 H #[.int .u8 _, .bool _] rfl (by decide +kernel) (by kernel_rfl) ?_) | (refine wpList_mloadA rfl 104 _ rfl _ rfl 3 H (wkC _) rfl (by decide +kernel) (by kernel_rfl) ?_) | (refine wpList_mload1 rfl _ _ rfl _ _ rfl 1 H _ (.int _ _) rfl rfl (by decide +kernel) ?_) | (refine wpList_mload1 rfl _ _ rfl _ _ rfl 1 H _ (.bool _) rfl rfl (by decide +kernel) ?_)) | (refine gate_store _ _ _ rfl ?_; (first | (refine wpList_mstoreA rfl 23 _ _ rfl rfl _ rfl 0 H #[.int .u8 _, .bool _] _ rfl rfl (by kernel_rfl) (by kernel_rfl) (by kernel_rfl) ?_) | (refine wpList_mstoreA rfl 23 _ _ rfl rfl _ rfl 1 H #[.int .u8 _, .bool _] _ rfl rfl (by kernel_rfl) (by kernel_rfl) (by kernel_rfl) ?_) | (refine wpList_mstoreA rfl 36 _ _ rfl rfl _ rfl 2 H (bsC _) _ rfl rfl (by kernel_rfl) (by kernel_rfl) (by kernel_rfl) ?_)); clear H; intro w1 H; simp only [List.set_cons_zero, List.set_cons_succ] at H) | (refine wpList_mnew rfl _ rfl H _ HZB.out ?_; clear H; intro _ w1 _ H) | (refine wpList_mnew rfl _ rfl H _ HZU.out ?_; clear H; intro _ w1 _ H) | fail)
  first | refine ret_mem1 rfl _ rfl 2 H _ rfl (by kernel_rfl) (by kernel_rfl) rfl ?_
  refine ⟨?_, H.toBelow⟩
  first | rfl | (simp [bsC, atStack, pushB, putB, *]; done)

set_option maxHeartbeats 2000000 in
theorem pushflags_ct (s : Wk) (F : Fiw s) : CA 132 s (askM .flags s) := by
  intro w
  have QP := Lib.hid (fun v b w => push_ct s v b F w)
  obtain ⟨⟨a0, a1, x0, x1, y0, y1, s0, s1, p0, p1, q0, q1, cp, cq, pc0, pc1, op0, op1, ad0, ad1, d0, d1⟩, v0, v1⟩ := F
  clear cp cq
  have HZB := Lib.hid alloc_by
  have HZU := Lib.hid alloc_bus
  have H := Mem.start w
  have MR1 : True := trivial
  have MR2 : True := trivial
  go_enter Tryz.func132, Tryz.ntmps132
  go_wp2_with (first | (refine wpList_mboxA rfl _ _ rfl H _ rfl ?_; clear H; (first | (clear MR1; intro R1 w1 _ H) | (clear MR2; intro R2 w1 _ H))) | go_skip | (refine wpList_mnew rfl _ rfl H _ HZU.out ?_; clear H; (first | (clear MR1; intro R1 w1 _ H) | (clear MR2; intro R2 w1 _ H))) | fail)
  (try simp only [Act.put, List.setIfInBounds_toArray, List.set_cons_succ, List.set_cons_zero])
  (refine wp_region_tails_below 10 (by kernel_rfl) (by kernel_rfl) ?_); (simp only [List.take_succ_cons, List.take_zero, List.drop_succ_cons, List.drop_zero]); (repeat (first | (go_big_quiet_want; refine gate_qload _ _ rfl ?_; (first | (refine quiet_mload 25 _ rfl _ _ rfl 1 H _ #[.int .u8 _, .int .u8 _] rfl (by decide +kernel) (by kernel_rfl) (part2 rfl rfl) ?_) | (refine quiet_mloadA 104 _ rfl _ rfl 1 H (wkC _) rfl (by decide +kernel) (by kernel_rfl) ?_) | (refine quiet_mload1 _ _ rfl _ _ rfl 1 H _ (.int _ _) rfl rfl (by decide +kernel) ?_)); simp only [Act.put, List.setIfInBounds_toArray, List.set_cons_succ, List.set_cons_zero]; go_big_quiet_on) | go_big_quiet_step ((first | (go_at_call 176; (with_reducible exact Calls.regrown_of (apush_ct _ _ _ _ (by first | assumption | decide | omega) (by first | assumption | decide | omega) (by first | assumption | decide | omega) (by first | assumption | decide | omega)))) | (go_at_call 174; (with_reducible exact Calls.regrown_of (QP.out _ _ _))) | fail)))); (refine wpQuiet_nil ?_); intro _ hw'; obtain ⟨⟨dq, osq⟩, hw''⟩ := hw'; (subst hw''); replace H := H.next (below_regrown _ dq osq)
  go_wp2_with (first | go_skip | (refine gate_store _ _ _ rfl ?_; (first | (refine wpList_mstoreA rfl 36 _ _ rfl rfl _ rfl 0 H (bsC _) _ rfl rfl (by kernel_rfl) (by kernel_rfl) (by kernel_rfl) ?_)); clear H; intro w1 H; simp only [List.set_cons_zero, List.set_cons_succ] at H) | fail)
  first | refine ret_mem1 rfl _ rfl 0 H _ rfl (by kernel_rfl) (by kernel_rfl) rfl ?_ | refine ret_mem1 rfl _ rfl 1 H _ rfl (by kernel_rfl) (by kernel_rfl) rfl ?_
  refine ⟨?_, H.toBelow⟩
  first | rfl | (simp [bsC, atStack, pushB, putB, *]; done)

set_option maxHeartbeats 2000000 in
theorem putdata_ct (s : Wk) : CA 149 s (askM .data s) := by
  intro w
  have HZB := Lib.hid alloc_by
  have HZU := Lib.hid alloc_bus
  have H := Mem.start w
  go_enter Tryz.func149, Tryz.ntmps149
  go_wp2_with (first | (go_at_call 182; (with_reducible refine (put_ct _ _ _ _).mono ?_); rintro e w2 ⟨rfl, hB⟩; replace H := H.next hB; clear hB) | (refine wpList_mboxA rfl _ _ rfl H _ rfl ?_; clear H; intro _ w1 _ H) | go_skip | (refine gate_load _ _ rfl ?_; first | (refine wpList_mload rfl 23 _ rfl _ _ rfl 1 H _ #[.int .u8 _, .bool _] rfl (by decide +kernel) (by kernel_rfl) (part2 rfl rfl) ?_) | (refine wpList_mloadA rfl 104 _ rfl _ rfl 1 H (wkC _) rfl (by decide +kernel) (by kernel_rfl) ?_)) | (refine gate_store _ _ _ rfl ?_; (first | (refine wpList_mstoreA rfl 36 _ _ rfl rfl _ rfl 0 H (bsC _) _ rfl rfl (by kernel_rfl) (by kernel_rfl) (by kernel_rfl) ?_)); clear H; intro w1 H; simp only [List.set_cons_zero, List.set_cons_succ] at H) | (refine wpList_mnew rfl _ rfl H _ HZU.out ?_; clear H; intro _ w1 _ H) | fail)
  first | refine ret_mem1 rfl _ rfl 0 H _ rfl (by kernel_rfl) (by kernel_rfl) rfl ?_ | refine ret_mem1 rfl _ rfl 1 H _ rfl (by kernel_rfl) (by kernel_rfl) rfl ?_ | refine ret_mem1 rfl _ rfl 2 H _ rfl (by kernel_rfl) (by kernel_rfl) rfl ?_
  refine ⟨?_, H.toBelow⟩
  first | rfl | (simp [bsC, atStack, pushB, putB, *]; done)

set_option maxHeartbeats 2000000 in
theorem pushone_p (s : Wk) (F : Fiw s) (hn : s.nm.toList = [80, 72, 80]) : CA 136 s (askM .one s) := by
  intro w
  have en : (s.nm.toList == [80, 72, 80]) = true := by simp [hn]
  have QP := Lib.hid (fun v b w => push_ct s v b F w)
  obtain ⟨⟨a0, a1, x0, x1, y0, y1, s0, s1, p0, p1, q0, q1, cp, cq, pc0, pc1, op0, op1, ad0, ad1, d0, d1⟩, v0, v1⟩ := F
  clear cp cq
  have HZB := Lib.hid alloc_by
  have HZU := Lib.hid alloc_bus
  have H := Mem.start w
  have MR1 : True := trivial
  have MR2 : True := trivial
  go_enter Tryz.func136, Tryz.ntmps136
  go_wp2_with (first | (refine wpList_mboxA rfl _ _ rfl H _ rfl ?_; clear H; (first | (clear MR1; intro R1 w1 _ H) | (clear MR2; intro R2 w1 _ H))) | go_skip | (refine gate_load _ _ rfl ?_; first | (refine wpList_mload1 rfl _ _ rfl _ _ rfl 1 H _ (.string _) rfl rfl (by decide +kernel) ?_)) | (refine wpList_mnew rfl _ rfl H _ HZU.out ?_; clear H; (first | (clear MR1; intro R1 w1 _ H) | (clear MR2; intro R2 w1 _ H))) | fail)
  (try simp only [Act.put, List.setIfInBounds_toArray, List.set_cons_succ, List.set_cons_zero])
  (refine wp_region_tails_below 6 (by kernel_rfl) (by kernel_rfl) ?_); (simp only [List.take_succ_cons, List.take_zero, List.drop_succ_cons, List.drop_zero]); (repeat (first | (go_big_quiet_want; refine gate_qload _ _ rfl ?_; (first | (refine quiet_mload 25 _ rfl _ _ rfl 1 H _ #[.int .u8 _, .int .u8 _] rfl (by decide +kernel) (by kernel_rfl) (part2 rfl rfl) ?_) | (refine quiet_mloadA 104 _ rfl _ rfl 1 H (wkC _) rfl (by decide +kernel) (by kernel_rfl) ?_)); simp only [Act.put, List.setIfInBounds_toArray, List.set_cons_succ, List.set_cons_zero]; go_big_quiet_on) | go_big_quiet_step ((first | (go_at_call 176; (with_reducible exact Calls.regrown_of (apush_ct _ _ _ _ (by first | assumption | decide | omega) (by first | assumption | decide | omega) (by first | assumption | decide | omega) (by first | assumption | decide | omega)))) | (go_at_call 174; (with_reducible exact Calls.regrown_of (QP.out _ _ _))) | fail)))); (refine wpQuiet_nil ?_); intro _ hw'; obtain ⟨⟨dq, osq⟩, hw''⟩ := hw'; (subst hw''); replace H := H.next (below_regrown _ dq osq)
  go_wp2_with (first | go_skip | (refine gate_store _ _ _ rfl ?_; (first | (refine wpList_mstoreA rfl 36 _ _ rfl rfl _ rfl 0 H (bsC _) _ rfl rfl (by kernel_rfl) (by kernel_rfl) (by kernel_rfl) ?_)); clear H; intro w1 H; simp only [List.set_cons_zero, List.set_cons_succ] at H) | fail)
  first | refine ret_mem1 rfl _ rfl 0 H _ rfl (by kernel_rfl) (by kernel_rfl) rfl ?_ | refine ret_mem1 rfl _ rfl 1 H _ rfl (by kernel_rfl) (by kernel_rfl) rfl ?_
  refine ⟨?_, H.toBelow⟩
  have hm : nmEq s.nm (S3 80 72 80) = true := by unfold nmEq; rw [← ByteArray.toList_eq]; exact en
  show _ = Ending.returned (.agg (bsC (if nmEq s.nm (S3 80 72 80) = true then _ else _)))
  rw [hm]
  rfl

set_option maxHeartbeats 2000000 in
theorem pushone_a (s : Wk) (F : Fiw s) (hn : s.nm.toList ≠ [80, 72, 80]) : CA 136 s (askM .one s) := by
  intro w
  have en : (s.nm.toList == [80, 72, 80]) = false := by simp [hn]
  have QP := Lib.hid (fun v b w => push_ct s v b F w)
  obtain ⟨⟨a0, a1, x0, x1, y0, y1, s0, s1, p0, p1, q0, q1, cp, cq, pc0, pc1, op0, op1, ad0, ad1, d0, d1⟩, v0, v1⟩ := F
  clear cp cq
  have HZB := Lib.hid alloc_by
  have HZU := Lib.hid alloc_bus
  have H := Mem.start w
  have MR1 : True := trivial
  have MR2 : True := trivial
  go_enter Tryz.func136, Tryz.ntmps136
  go_wp2_with (first | (go_at_call 174; (with_reducible refine (QP.out _ _ _).mono ?_); rintro e w2 ⟨rfl, hB⟩; replace H := H.next hB; clear hB) | (refine wpList_mboxA rfl _ _ rfl H _ rfl ?_; clear H; (first | (clear MR1; intro R1 w1 _ H) | (clear MR2; intro R2 w1 _ H))) | go_skip | (refine gate_load _ _ rfl ?_; first | (refine wpList_mload rfl 23 _ rfl _ _ rfl 1 H _ #[.int .u8 _, .bool _] rfl (by decide +kernel) (by kernel_rfl) (part2 rfl rfl) ?_) | (refine wpList_mloadA rfl 104 _ rfl _ rfl 1 H (wkC _) rfl (by decide +kernel) (by kernel_rfl) ?_) | (refine wpList_mload1 rfl _ _ rfl _ _ rfl 1 H _ (.string _) rfl rfl (by decide +kernel) ?_)) | (refine gate_store _ _ _ rfl ?_; (first | (refine wpList_mstoreA rfl 36 _ _ rfl rfl _ rfl 0 H (bsC _) _ rfl rfl (by kernel_rfl) (by kernel_rfl) (by kernel_rfl) ?_)); clear H; intro w1 H; simp only [List.set_cons_zero, List.set_cons_succ] at H) | (refine wpList_mnew rfl _ rfl H _ HZU.out ?_; clear H; (first | (clear MR1; intro R1 w1 _ H) | (clear MR2; intro R2 w1 _ H))) | fail)
  first | refine ret_mem1 rfl _ rfl 0 H _ rfl (by kernel_rfl) (by kernel_rfl) rfl ?_ | refine ret_mem1 rfl _ rfl 1 H _ rfl (by kernel_rfl) (by kernel_rfl) rfl ?_
  refine ⟨?_, H.toBelow⟩
  have hm : nmEq s.nm (S3 80 72 80) = false := by unfold nmEq; rw [← ByteArray.toList_eq]; exact en
  show _ = Ending.returned (.agg (bsC (if nmEq s.nm (S3 80 72 80) = true then _ else _)))
  rw [hm]
  rfl

end Go.Proofs.YtbonamhinnhlnaaGreatDoor
