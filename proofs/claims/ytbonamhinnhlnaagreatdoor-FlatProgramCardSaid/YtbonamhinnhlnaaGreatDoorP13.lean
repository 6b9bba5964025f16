/-
  Several texts in one: what is read and written by the functions on the way to the statements. Conditions stand in each theorem.
-/
import Derived.Test.YtbonamhinnhlnaaGreatDoorP12
namespace Go.Proofs.YtbonamhinnhlnaaGreatDoor
open Go.RowKit
set_option linter.unusedSimpArgs false
set_option linter.unusedVariables false
set_option maxRecDepth 20000

set_option maxHeartbeats 4000000 in
theorem aadc_ct (p s a : Int) (x : Bool) (m : Int) (y : Bool) (w : World) (p0 : 0 ≤ p) (p1 : p < 256) (s0 : 0 ≤ s) (s1 : s < 256) (a0 : 0 ≤ a) (a1 : a < 256) (m0 : 0 ≤ m) (m1 : m < 256) :
    Calls Tryz.prog 230 #[.agg #[.int .u8 p, .int .u8 s], .agg #[.int .u8 a, .bool x], .agg #[.int .u8 m, .bool y]] w fun e w' => e = .returned (.tuple #[.agg #[.int .u8 (adcV a m (cI p)), .bool (x || (y || hasV s 1))], .agg #[.int .u8 (adcP p a m (cI p)), .int .u8 (adcS s (x || (y || hasV s 1)))]]) ∧ Below w.heap.size w w' := by
  have KG : ∀ wr : World, Calls Tryz.prog 85 #[.agg #[.int .u8 p, .int .u8 s], .int .u8 1] wr fun e w' => e = .returned (.agg #[.int .u8 (cI p), .bool (hasV s 1)]) ∧ Below wr.heap.size wr w' := fun wr => aget_ct p s 1 wr p0 p1 s0 s1 (by decide) (by decide)
  have QG := Lib.hid KG
  clear KG
  obtain ⟨c0, c1⟩ := cI_two p
  generalize cI p = c at *
  generalize hasV s 1 = u at *
  rw [← adcP_pro, ← adcS_pro]
  have HZF := Lib.hid alloc_fl
  have HZB := Lib.hid alloc_by
  have H := Mem.start w
  have M1 : True := trivial
  have M2 : True := trivial
  have M3 : True := trivial
  have M4 : True := trivial
  have M5 : True := trivial
  have M6 : True := trivial
  have M7 : True := trivial
  have M8 : True := trivial
  have M9 : True := trivial
  have M10 : True := trivial
  go_enter Tryz.func230, Tryz.ntmps230
  go_wp2_with (first | (go_at_call 85; (with_reducible refine (QG.out _).mono ?_); rintro e w2 ⟨rfl, hB⟩; replace H := H.next hB; clear hB) | (refine wpList_mrow rfl _ _ _ rfl H _ (by simp only [List.map_toArray, List.map_cons, List.map_nil, Act.eval]; rfl) _ _ (build_by3 a x m y c u) ?_; clear H; (first | (clear M1; intro R1 w1 H) | (clear M2; intro R2 w1 H) | (clear M3; intro R3 w1 H) | (clear M4; intro R4 w1 H) | (clear M5; intro R5 w1 H) | (clear M6; intro R6 w1 H) | (clear M7; intro R7 w1 H) | (clear M8; intro R8 w1 H))) | (go_at_call 218; (with_reducible refine (of3_ct _ _ _ _ x y u H 0 rfl).mono ?_); rintro e w2 ⟨rfl, hB⟩; replace H := H.next hB; clear hB) | (refine wpList_mboxA rfl _ _ rfl H _ rfl ?_; clear H; (first | (clear M1; intro R1 w1 _ H) | (clear M2; intro R2 w1 _ H) | (clear M3; intro R3 w1 _ H) | (clear M4; intro R4 w1 _ H) | (clear M5; intro R5 w1 _ H) | (clear M6; intro R6 w1 _ H) | (clear M7; intro R7 w1 _ H) | (clear M8; intro R8 w1 _ H))) | go_skip | (refine gate_load _ _ rfl ?_; first | (refine wpList_mloadA rfl _ _ rfl _ rfl 0 H _ rfl (by decide +kernel) (by kernel_rfl) ?_) | (refine wpList_mloadA rfl _ _ rfl _ rfl 3 H _ rfl (by decide +kernel) (by kernel_rfl) ?_) | (refine wpList_mloadA rfl _ _ rfl _ rfl 4 H _ rfl (by decide +kernel) (by kernel_rfl) ?_) | (refine wpList_mload1 rfl _ _ rfl _ _ rfl 0 H _ (.int _ _) rfl rfl (by decide +kernel) ?_) | (refine wpList_mload1 rfl _ _ rfl _ _ rfl 3 H _ (.int _ _) rfl rfl (by decide +kernel) ?_) | (refine wpList_mload1 rfl _ _ rfl _ _ rfl 4 H _ (.int _ _) rfl rfl (by decide +kernel) ?_)) | (refine gate_store _ _ _ rfl ?_; (first | (refine wpList_mstoreA rfl _ _ _ rfl rfl _ rfl 0 H _ _ rfl rfl (by kernel_rfl) (by kernel_rfl) (by kernel_rfl) ?_)); clear H; intro w1 H; simp only [List.set_cons_zero, List.set_cons_succ] at H) | (refine wpList_mnew rfl _ rfl H _ HZF.out ?_; clear H; (first | (clear M1; intro R1 w1 _ H) | (clear M2; intro R2 w1 _ H) | (clear M3; intro R3 w1 _ H) | (clear M4; intro R4 w1 _ H) | (clear M5; intro R5 w1 _ H) | (clear M6; intro R6 w1 _ H) | (clear M7; intro R7 w1 _ H) | (clear M8; intro R8 w1 _ H))) | (refine wpList_mnew rfl _ rfl H _ HZB.out ?_; clear H; (first | (clear M1; intro R1 w1 _ H) | (clear M2; intro R2 w1 _ H) | (clear M3; intro R3 w1 _ H) | (clear M4; intro R4 w1 _ H) | (clear M5; intro R5 w1 _ H) | (clear M6; intro R6 w1 _ H) | (clear M7; intro R7 w1 _ H) | (clear M8; intro R8 w1 _ H))) | fail)
  (try simp only [Act.put, List.setIfInBounds_toArray, List.set_cons_succ, List.set_cons_zero])
  replace H : Mem w.heap.size [] w _ [(R8, #[.int .u8 (adcV a m c), .bool (x || (y || u))]), (R7, #[.int .u8 (a), .bool (x), .int .u8 (m), .bool (y), .int .u8 (c), .bool (u)]), (R6, #[.int .u8 (c), .bool (u)]), (R5, #[.int .u8 (0), .int .u8 (0)]), (R4, #[.int .u8 (0), .bool (false)]), (R3, #[.int .u8 (m), .bool (y)]), (R2, #[.int .u8 (a), .bool (x)]), (R1, #[.int .u8 (p), .int .u8 (s)])] := H
  refine wp_region_x (by kernel_rfl) (by kernel_rfl) [(some 33, fun _ => .agg #[.int .u8 (a), .bool (x)]), (some 34, fun _ => .agg #[.int .u8 (adcV a m c), .bool (x || (y || u))]), (some 35, fun _ => .agg #[.int .u8 (bits .xor .u8 (a) (adcV a m c)), .bool ((x) || (x || (y || u)))]), (some 36, fun _ => .agg #[.int .u8 (m), .bool (y)]), (some 37, fun _ => .agg #[.int .u8 (adcV a m c), .bool (x || (y || u))]), (some 38, fun _ => .agg #[.int .u8 (bits .xor .u8 (m) (adcV a m c)), .bool ((y) || (x || (y || u)))]), (some 39, fun _ => .agg #[.int .u8 (bits .and .u8 (bits .xor .u8 (a) (adcV a m c)) (bits .xor .u8 (m) (adcV a m c))), .bool (((x) || (x || (y || u))) || ((y) || (x || (y || u))))]), (some 11, fun R => .pointer (some ⟨R, 0, none⟩)), (none, fun _ => undef)] (fun D bq w => Mem _ _ _ w (cond (D 7) ((bq 7, cond (D 8) #[.int .u8 (bits .and .u8 (bits .xor .u8 (a) (adcV a m c)) (bits .xor .u8 (m) (adcV a m c))), .bool (((x) || (x || (y || u))) || ((y) || (x || (y || u))))] (#[.int .u8 (0), .bool (false)])) :: [(R8, #[.int .u8 (adcV a m c), .bool (x || (y || u))]), (R7, #[.int .u8 (a), .bool (x), .int .u8 (m), .bool (y), .int .u8 (c), .bool (u)]), (R6, #[.int .u8 (c), .bool (u)]), (R5, #[.int .u8 (0), .int .u8 (0)]), (R4, #[.int .u8 (0), .bool (false)]), (R3, #[.int .u8 (m), .bool (y)]), (R2, #[.int .u8 (a), .bool (x)]), (R1, #[.int .u8 (p), .int .u8 (s)])]) [(R8, #[.int .u8 (adcV a m c), .bool (x || (y || u))]), (R7, #[.int .u8 (a), .bool (x), .int .u8 (m), .bool (y), .int .u8 (c), .bool (u)]), (R6, #[.int .u8 (c), .bool (u)]), (R5, #[.int .u8 (0), .int .u8 (0)]), (R4, #[.int .u8 (0), .bool (false)]), (R3, #[.int .u8 (m), .bool (y)]), (R2, #[.int .u8 (a), .bool (x)]), (R1, #[.int .u8 (p), .int .u8 (s)])])) 57 (by rfl) (by rfl) (by rfl) H.drew ⟨⟨rfl, ?p0⟩, ⟨rfl, ?p1⟩, ⟨rfl, ?p2⟩, ⟨rfl, ?p3⟩, ⟨rfl, ?p4⟩, ⟨rfl, ?p5⟩, ⟨rfl, ?p6⟩, ⟨rfl, ?p7⟩, ⟨rfl, ?p8⟩, trivial⟩ ?_
  case p0 =>
    intro D bq a' w' hk hc he hl hW
    (try dsimp only at hW)
    have f4 : a'.tmps.getD 4 undef = .pointer (some ⟨R2, 0, none⟩) := (hl 4).trans ((vsx_no rfl).trans rfl)
    exact wp_sloadA _ _ rfl _ f4 6 (Mem.condB hW) #[.int .u8 (a), .bool (x)] rfl (by kernel_rfl) (by kernel_rfl) ⟨0, rfl, hW⟩
  case p1 =>
    intro D bq a' w' hk hc he hl hW
    (try dsimp only at hW)
    have f10 : a'.tmps.getD 10 undef = .pointer (some ⟨R8, 0, none⟩) := (hl 10).trans ((vsx_no rfl).trans rfl)
    exact wp_sloadA _ _ rfl _ f10 0 (Mem.condB hW) #[.int .u8 (adcV a m c), .bool (x || (y || u))] rfl (by kernel_rfl) (by kernel_rfl) ⟨0, rfl, hW⟩
  case p2 =>
    intro D bq a' w' hk hc he hl hW
    (try dsimp only at hW)
    have e0 : a'.tmps.getD 33 undef = .agg #[.int .u8 (a), .bool (x)] := (hl 33).trans (vsx_at (f := fun _ => .agg #[.int .u8 (a), .bool (x)]) rfl (he ⟨0, .data⟩ (by simp) rfl) rfl)
    have e1 : a'.tmps.getD 34 undef = .agg #[.int .u8 (adcV a m c), .bool (x || (y || u))] := (hl 34).trans (vsx_at (f := fun _ => .agg #[.int .u8 (adcV a m c), .bool (x || (y || u))]) rfl (he ⟨1, .data⟩ (by simp) rfl) rfl)
    refine wp_callp (vals := #[.agg #[.int .u8 (a), .bool (x)], .agg #[.int .u8 (adcV a m c), .bool (x || (y || u))]]) rfl rfl (by simp only [List.map_toArray, List.map_cons, List.map_nil, Act.eval, e0, e1]) (by kernel_rfl) (xor_ct (a) (adcV a m c) (x) (x || (y || u)) w') ?_
    rintro e w2 ⟨rfl, hB⟩
    exact ⟨_, rfl, 0, rfl, Mem.next hW hB⟩
  case p3 =>
    intro D bq a' w' hk hc he hl hW
    (try dsimp only at hW)
    have f5 : a'.tmps.getD 5 undef = .pointer (some ⟨R3, 0, none⟩) := (hl 5).trans ((vsx_no rfl).trans rfl)
    exact wp_sloadA _ _ rfl _ f5 5 (Mem.condB hW) #[.int .u8 (m), .bool (y)] rfl (by kernel_rfl) (by kernel_rfl) ⟨0, rfl, hW⟩
  case p4 =>
    intro D bq a' w' hk hc he hl hW
    (try dsimp only at hW)
    have f10 : a'.tmps.getD 10 undef = .pointer (some ⟨R8, 0, none⟩) := (hl 10).trans ((vsx_no rfl).trans rfl)
    exact wp_sloadA _ _ rfl _ f10 0 (Mem.condB hW) #[.int .u8 (adcV a m c), .bool (x || (y || u))] rfl (by kernel_rfl) (by kernel_rfl) ⟨0, rfl, hW⟩
  case p5 =>
    intro D bq a' w' hk hc he hl hW
    (try dsimp only at hW)
    have e3 : a'.tmps.getD 36 undef = .agg #[.int .u8 (m), .bool (y)] := (hl 36).trans (vsx_at (f := fun _ => .agg #[.int .u8 (m), .bool (y)]) rfl (he ⟨3, .data⟩ (by simp) rfl) rfl)
    have e4 : a'.tmps.getD 37 undef = .agg #[.int .u8 (adcV a m c), .bool (x || (y || u))] := (hl 37).trans (vsx_at (f := fun _ => .agg #[.int .u8 (adcV a m c), .bool (x || (y || u))]) rfl (he ⟨4, .data⟩ (by simp) rfl) rfl)
    refine wp_callp (vals := #[.agg #[.int .u8 (m), .bool (y)], .agg #[.int .u8 (adcV a m c), .bool (x || (y || u))]]) rfl rfl (by simp only [List.map_toArray, List.map_cons, List.map_nil, Act.eval, e3, e4]) (by kernel_rfl) (xor_ct (m) (adcV a m c) (y) (x || (y || u)) w') ?_
    rintro e w2 ⟨rfl, hB⟩
    exact ⟨_, rfl, 0, rfl, Mem.next hW hB⟩
  case p6 =>
    intro D bq a' w' hk hc he hl hW
    (try dsimp only at hW)
    have e2 : a'.tmps.getD 35 undef = .agg #[.int .u8 (bits .xor .u8 (a) (adcV a m c)), .bool ((x) || (x || (y || u)))] := (hl 35).trans (vsx_at (f := fun _ => .agg #[.int .u8 (bits .xor .u8 (a) (adcV a m c)), .bool ((x) || (x || (y || u)))]) rfl (he ⟨2, .data⟩ (by simp) rfl) rfl)
    have e5 : a'.tmps.getD 38 undef = .agg #[.int .u8 (bits .xor .u8 (m) (adcV a m c)), .bool ((y) || (x || (y || u)))] := (hl 38).trans (vsx_at (f := fun _ => .agg #[.int .u8 (bits .xor .u8 (m) (adcV a m c)), .bool ((y) || (x || (y || u)))]) rfl (he ⟨5, .data⟩ (by simp) rfl) rfl)
    refine wp_callp (vals := #[.agg #[.int .u8 (bits .xor .u8 (a) (adcV a m c)), .bool ((x) || (x || (y || u)))], .agg #[.int .u8 (bits .xor .u8 (m) (adcV a m c)), .bool ((y) || (x || (y || u)))]]) rfl rfl (by simp only [List.map_toArray, List.map_cons, List.map_nil, Act.eval, e2, e5]) (by kernel_rfl) (and_ct (bits .xor .u8 (a) (adcV a m c)) (bits .xor .u8 (m) (adcV a m c)) ((x) || (x || (y || u))) ((y) || (x || (y || u))) w') ?_
    rintro e w2 ⟨rfl, hB⟩
    exact ⟨_, rfl, 0, rfl, Mem.next hW hB⟩
  case p7 =>
    intro D bq a' w' hk hc he hl hW
    (try dsimp only at hW)
    have hM := Mem.ofF hk hW
    have hA := fun T => Mem.new hM #[.int .u8 (0), .bool (false)] T
    refine wp_alx _ rfl _ alloc_by ?_
    have n8 : D 8 = false := hc.no .data hk rfl (by simp) rfl
    refine ⟨_, rfl, ?_⟩
    show Mem _ _ _ _ ((_, cond (D 8) _ (_)) :: _)
    rw [n8]
    exact hA _
  case p8 =>
    intro D bq a' w' hk hc he hl hW
    (try dsimp only at hW)
    have e7 : a'.tmps.getD 11 undef = .pointer (some ⟨bq 7, 0, none⟩) := (hl 11).trans (vsx_at (f := fun R => .pointer (some ⟨R, 0, none⟩)) rfl (he ⟨7, .data⟩ (by simp) rfl) rfl)
    have e6 : a'.tmps.getD 39 undef = .agg #[.int .u8 (bits .and .u8 (bits .xor .u8 (a) (adcV a m c)) (bits .xor .u8 (m) (adcV a m c))), .bool (((x) || (x || (y || u))) || ((y) || (x || (y || u))))] := (hl 39).trans (vsx_at (f := fun _ => .agg #[.int .u8 (bits .and .u8 (bits .xor .u8 (a) (adcV a m c)) (bits .xor .u8 (m) (adcV a m c))), .bool (((x) || (x || (y || u))) || ((y) || (x || (y || u))))]) rfl (he ⟨6, .data⟩ (by simp) rfl) rfl)
    have h1 := he ⟨7, .data⟩ (by simp) rfl
    have hM := hW
    simp only [hk, h1, cond_false, cond_true] at hM
    exact wp_sstoreA _ _ _ rfl rfl (bq 7) e7 0 hM #[.int .u8 (0), .bool (false)] #[.int .u8 (bits .and .u8 (bits .xor .u8 (a) (adcV a m c)) (bits .xor .u8 (m) (adcV a m c))), .bool (((x) || (x || (y || u))) || ((y) || (x || (y || u))))] rfl e6 (by kernel_rfl) (by rfl) (by kernel_rfl) fun w1 hM1 => ⟨0, rfl, Mem.condT h1 hM1⟩
  intro D bq w' hD hW
  (try dsimp only at hW)
  simp only [hD 7 (by decide), hD 8 (by decide), cond_true] at hW
  clear H hD
  have H := hW
  clear hW
  simp only [putAll, vsOf, Nat.reduceAdd, List.foldl_cons, List.foldl_nil, Act.put, List.setIfInBounds_toArray, List.set_cons_succ, List.set_cons_zero]
  (try generalize bq 7 = q7 at *)
  have hlab : ((x || (x || (y || u))) || (y || (x || (y || u)))) = (x || (y || u)) := by cases x <;> cases y <;> cases u <;> rfl
  rw [hlab] at H
  clear hlab
  obtain ⟨v0, v1⟩ := adcV_le a m c
  obtain ⟨x0, x1⟩ := xor_le a _ a0 a1 v0 v1
  obtain ⟨y0, y1⟩ := xor_le m _ m0 m1 v0 v1
  obtain ⟨n0, n1⟩ := bothV_le _ _ x0 x1 y0 y1
  unfold bothV at n0 n1
  clear v0 v1 x0 x1 y0 y1
  replace H : Mem w.heap.size [] w _ [(q7, #[.int .u8 (bits .and .u8 (bits .xor .u8 a (adcV a m c)) (bits .xor .u8 m (adcV a m c))), .bool (x || (y || u))]), (R8, #[.int .u8 (adcV a m c), .bool (x || (y || u))]), (R7, #[.int .u8 (a), .bool (x), .int .u8 (m), .bool (y), .int .u8 (c), .bool (u)]), (R6, #[.int .u8 (c), .bool (u)]), (R5, #[.int .u8 (0), .int .u8 (0)]), (R4, #[.int .u8 (0), .bool (false)]), (R3, #[.int .u8 (m), .bool (y)]), (R2, #[.int .u8 (a), .bool (x)]), (R1, #[.int .u8 (p), .int .u8 (s)])] := H
  go_wp2_with (first | (go_at_call 220; (with_reducible refine (anz_ct p s (adcV a m c) (x || (y || u)) _ p0 p1 s0 s1 (adcV_le _ _ _).1 (adcV_le _ _ _).2).mono ?_); rintro e w2 ⟨rfl, hB⟩; replace H := H.next hB; clear hB) | (go_at_call 217; (with_reducible refine (over_ct (nzP p (adcV a m c)) (nzS s (x || (y || u))) _ (by first | assumption | with_reducible exact (nzP_le _ _).1 | decide | omega) (by first | assumption | with_reducible exact (nzP_le _ _).2 | decide | omega) (by first | assumption | with_reducible exact (nzS_le _ _).1 | decide | omega) (by first | assumption | with_reducible exact (nzS_le _ _).2 | decide | omega)).mono ?_); first | (clear M9; rintro e w2 ⟨R9, T0, rfl, hR0, hB, hO⟩; replace H := H.add hB hR0 hO; clear hB hR0 hO)) | (refine wpList_mrow rfl _ _ _ rfl H _ (by simp only [List.map_toArray, List.map_cons, List.map_nil, Act.eval]; rfl) _ _ (build_by1 (adcV a m c) (x || (y || u))) ?_; clear H; (first | (clear M10; intro R10 w1 H))) | (go_at_call 218; (with_reducible refine (of1_ct _ _ (x || (y || u)) H 0 rfl).mono ?_); rintro e w2 ⟨rfl, hB⟩; replace H := H.next hB; clear hB) | (go_at_call 238; obtain ⟨T0, hT⟩ := H.get (i := 1) rfl; (with_reducible refine (aput_ct (clr (nzP p (adcV a m c))) (clr (nzS s (x || (y || u)))) (1) ((a + m + c) / 256) (decide (256 ≤ a + m + c)) (x || (y || u)) (car_bit _ (by omega)) _ _ _ (by first | assumption | with_reducible exact (clr_le _ (nzP_le _ _).1 (nzP_le _ _).2).1 | decide | omega) (by first | assumption | with_reducible exact (clr_le _ (nzP_le _ _).1 (nzP_le _ _).2).2 | decide | omega) (by first | assumption | with_reducible exact (clr_le _ (nzS_le _ _).1 (nzS_le _ _).2).1 | decide | omega) (by first | assumption | with_reducible exact (clr_le _ (nzS_le _ _).1 (nzS_le _ _).2).2 | decide | omega) (by first | assumption | decide | omega) (by first | assumption | decide | omega) (by first | assumption | with_reducible exact clr_clr _ | with_reducible exact clr_put _ _ _ | with_reducible exact clr_nzP _ _ | with_reducible exact clr_nzS _ _ | decide) (by first | assumption | with_reducible exact clr_clr _ | with_reducible exact clr_put _ _ _ | with_reducible exact clr_nzP _ _ | with_reducible exact clr_nzS _ _ | decide) hT).mono ?_); rintro e w2 ⟨rfl, hm⟩; replace H := H.call (i := 1) rfl hm; clear hm hT; simp only [List.set_cons_zero, List.set_cons_succ] at H) | go_skip | (refine gate_load _ _ rfl ?_; first | (refine wpList_mloadA rfl _ _ rfl _ rfl 1 H _ rfl (by decide +kernel) (by kernel_rfl) ?_) | (refine wpList_mloadA rfl _ _ rfl _ rfl 2 H _ rfl (by decide +kernel) (by kernel_rfl) ?_) | (refine wpList_mloadA rfl _ _ rfl _ rfl 8 H _ rfl (by decide +kernel) (by kernel_rfl) ?_)) | fail)
  (try simp only [Act.put, List.setIfInBounds_toArray, List.set_cons_succ, List.set_cons_zero])
  replace H : Mem w.heap.size [] w _ [(R10, #[.int .u8 (adcV a m c), .bool (x || (y || u))]), (R9, #[.int .u8 (pbV (clr (nzP p (adcV a m c))) 1 (decide (256 ≤ a + m + c))), .int .u8 (pbV (clr (nzS s (x || (y || u)))) 1 (x || (y || u)))]), (q7, #[.int .u8 (bits .and .u8 (bits .xor .u8 a (adcV a m c)) (bits .xor .u8 m (adcV a m c))), .bool (x || (y || u))]), (R8, #[.int .u8 (adcV a m c), .bool (x || (y || u))]), (R7, #[.int .u8 (a), .bool (x), .int .u8 (m), .bool (y), .int .u8 (c), .bool (u)]), (R6, #[.int .u8 (c), .bool (u)]), (R5, #[.int .u8 (0), .int .u8 (0)]), (R4, #[.int .u8 (0), .bool (false)]), (R3, #[.int .u8 (m), .bool (y)]), (R2, #[.int .u8 (a), .bool (x)]), (R1, #[.int .u8 (p), .int .u8 (s)])] := H
  refine wp_region_x (by kernel_rfl) (by kernel_rfl) [(some 52, fun _ => .agg #[.int .u8 (adcV a m c), .bool (x || (y || u))]), (some 53, fun _ => .func (.func 238) #[] #[.pointer (some ⟨R9, 0, none⟩)]), (some 54, fun _ => .agg #[.int .u8 (bits .and .u8 (bits .xor .u8 a (adcV a m c)) (bits .xor .u8 m (adcV a m c))), .bool (x || (y || u))]), (some 55, fun _ => .agg #[.int .u8 (bitV (bits .and .u8 (bits .xor .u8 a (adcV a m c)) (bits .xor .u8 m (adcV a m c))) (7)), .bool (x || (y || u))]), (some 56, fun _ => .agg #[.int .u8 (pbV (pbV (clr (nzP p (adcV a m c))) 1 (decide (256 ≤ a + m + c))) (64) (adcO a m c)), .int .u8 (pbV (pbV (clr (nzS s (x || (y || u)))) 1 (x || (y || u))) (64) (x || (y || u)))]), (none, fun _ => undef), (none, fun _ => undef)] (fun D bq w => Mem _ _ _ w ([(R10, #[.int .u8 (adcV a m c), .bool (x || (y || u))]), (R9, cond (D 4) #[.int .u8 (pbV (pbV (clr (nzP p (adcV a m c))) 1 (decide (256 ≤ a + m + c))) (64) (adcO a m c)), .int .u8 (pbV (pbV (clr (nzS s (x || (y || u)))) 1 (x || (y || u))) (64) (x || (y || u)))] (#[.int .u8 (pbV (clr (nzP p (adcV a m c))) 1 (decide (256 ≤ a + m + c))), .int .u8 (pbV (clr (nzS s (x || (y || u)))) 1 (x || (y || u)))])), (q7, #[.int .u8 (bits .and .u8 (bits .xor .u8 a (adcV a m c)) (bits .xor .u8 m (adcV a m c))), .bool (x || (y || u))]), (R8, #[.int .u8 (adcV a m c), .bool (x || (y || u))]), (R7, #[.int .u8 (a), .bool (x), .int .u8 (m), .bool (y), .int .u8 (c), .bool (u)]), (R6, #[.int .u8 (c), .bool (u)]), (R5, cond (D 6) #[.int .u8 (pbV (pbV (clr (nzP p (adcV a m c))) 1 (decide (256 ≤ a + m + c))) (64) (adcO a m c)), .int .u8 (pbV (pbV (clr (nzS s (x || (y || u)))) 1 (x || (y || u))) (64) (x || (y || u)))] (#[.int .u8 (0), .int .u8 (0)])), (R4, cond (D 5) #[.int .u8 (adcV a m c), .bool (x || (y || u))] (#[.int .u8 (0), .bool (false)])), (R3, #[.int .u8 (m), .bool (y)]), (R2, #[.int .u8 (a), .bool (x)]), (R1, #[.int .u8 (p), .int .u8 (s)])])) 57 (by rfl) (by rfl) (by rfl) H.drew ⟨⟨rfl, ?p0⟩, ⟨rfl, ?p1⟩, ⟨rfl, ?p2⟩, ⟨rfl, ?p3⟩, ⟨rfl, ?p4⟩, ⟨rfl, ?p5⟩, ⟨rfl, ?p6⟩, trivial⟩ ?_
  case p0 =>
    intro D bq a' w' hk hc he hl hW
    (try dsimp only at hW)
    have f10 : a'.tmps.getD 10 undef = .pointer (some ⟨R8, 0, none⟩) := (hl 10).trans ((vsx_no rfl).trans rfl)
    exact wp_sloadA _ _ rfl _ f10 3 hW #[.int .u8 (adcV a m c), .bool (x || (y || u))] rfl (by kernel_rfl) (by kernel_rfl) ⟨0, rfl, hW⟩
  case p1 =>
    intro D bq a' w' hk hc he hl hW
    (try dsimp only at hW)
    have f12 : a'.tmps.getD 12 undef = .func (.func 238) #[] #[.pointer (some ⟨R9, 0, none⟩)] := (hl 12).trans ((vsx_no rfl).trans rfl)
    exact wp_val (.func (.func 238) #[] #[.pointer (some ⟨R9, 0, none⟩)]) (by simp only [execOp, Act.eval, List.map_toArray, List.map_cons, List.map_nil]; rw [f12]; kernel_rfl) ⟨0, rfl, hW⟩
  case p2 =>
    intro D bq a' w' hk hc he hl hW
    (try dsimp only at hW)
    have f11 : a'.tmps.getD 11 undef = .pointer (some ⟨q7, 0, none⟩) := (hl 11).trans ((vsx_no rfl).trans rfl)
    exact wp_sloadA _ _ rfl _ f11 2 hW #[.int .u8 (bits .and .u8 (bits .xor .u8 a (adcV a m c)) (bits .xor .u8 m (adcV a m c))), .bool (x || (y || u))] rfl (by kernel_rfl) (by kernel_rfl) ⟨0, rfl, hW⟩
  case p3 =>
    intro D bq a' w' hk hc he hl hW
    (try dsimp only at hW)
    have e2 : a'.tmps.getD 54 undef = .agg #[.int .u8 (bits .and .u8 (bits .xor .u8 a (adcV a m c)) (bits .xor .u8 m (adcV a m c))), .bool (x || (y || u))] := (hl 54).trans (vsx_at (f := fun _ => .agg #[.int .u8 (bits .and .u8 (bits .xor .u8 a (adcV a m c)) (bits .xor .u8 m (adcV a m c))), .bool (x || (y || u))]) rfl (he ⟨2, .data⟩ (by simp) rfl) rfl)
    refine wp_callp (vals := #[.agg #[.int .u8 (bits .and .u8 (bits .xor .u8 a (adcV a m c)) (bits .xor .u8 m (adcV a m c))), .bool (x || (y || u))], .int .i64 (7)]) rfl rfl (by simp only [List.map_toArray, List.map_cons, List.map_nil, Act.eval, e2]) (by kernel_rfl) (bit_ct (bits .and .u8 (bits .xor .u8 a (adcV a m c)) (bits .xor .u8 m (adcV a m c))) (7) (x || (y || u)) w' (by first | assumption | decide | omega) (by first | assumption | decide | omega)) ?_
    rintro e w2 ⟨rfl, hB⟩
    exact ⟨_, rfl, 0, rfl, Mem.next hW hB⟩
  case p4 =>
    intro D bq a' w' hk hc he hl hW
    (try dsimp only at hW)
    have e3 : a'.tmps.getD 55 undef = .agg #[.int .u8 (bitV (bits .and .u8 (bits .xor .u8 a (adcV a m c)) (bits .xor .u8 m (adcV a m c))) (7)), .bool (x || (y || u))] := (hl 55).trans (vsx_at (f := fun _ => .agg #[.int .u8 (bitV (bits .and .u8 (bits .xor .u8 a (adcV a m c)) (bits .xor .u8 m (adcV a m c))) (7)), .bool (x || (y || u))]) rfl (he ⟨3, .data⟩ (by simp) rfl) rfl)
    have e1 : a'.tmps.getD 53 undef = .func (.func 238) #[] #[.pointer (some ⟨R9, 0, none⟩)] := (hl 53).trans (vsx_at (f := fun _ => .func (.func 238) #[] #[.pointer (some ⟨R9, 0, none⟩)]) rfl (he ⟨1, .data⟩ (by simp) rfl) rfl)
    have hM := hW
    simp only [hk, cond_false, cond_true] at hM
    obtain ⟨T, hT⟩ := Mem.get hM (i := 1) rfl
    refine wp_callc (caps := #[.pointer (some ⟨R9, 0, none⟩)]) (vals := #[.int .u8 (64), .agg #[.int .u8 (bitV (bits .and .u8 (bits .xor .u8 a (adcV a m c)) (bits .xor .u8 m (adcV a m c))) (7)), .bool (x || (y || u))]]) rfl rfl (e1) (by simp only [List.map_toArray, List.map_cons, List.map_nil, Act.eval, e3]) (by kernel_rfl) (by simp only [List.append_toArray, List.cons_append, List.nil_append]) (aput_ct (pbV (clr (nzP p (adcV a m c))) 1 (decide (256 ≤ a + m + c))) (pbV (clr (nzS s (x || (y || u)))) 1 (x || (y || u))) (64) (bitV (bits .and .u8 (bits .xor .u8 a (adcV a m c)) (bits .xor .u8 m (adcV a m c))) (7)) (adcO a m c) (x || (y || u)) (ovf_bit a0 a1 m0 m1 c0 c1) _ T w' (by first | assumption | with_reducible exact (pbV_le _ _ _).1 | decide | omega) (by first | assumption | with_reducible exact (pbV_le _ _ _).2 | decide | omega) (by first | assumption | with_reducible exact (pbV_le _ _ _).1 | decide | omega) (by first | assumption | with_reducible exact (pbV_le _ _ _).2 | decide | omega) (by first | assumption | decide | omega) (by first | assumption | decide | omega) (by first | assumption | with_reducible exact clr_clr _ | with_reducible exact clr_put _ _ _ | with_reducible exact clr_nzP _ _ | with_reducible exact clr_nzS _ _ | decide) (by first | assumption | with_reducible exact clr_clr _ | with_reducible exact clr_put _ _ _ | with_reducible exact clr_nzP _ _ | with_reducible exact clr_nzS _ _ | decide) hT) ?_
    rintro e w2 ⟨rfl, hm⟩
    exact ⟨_, rfl, 0, rfl, Mem.call hM (i := 1) rfl hm⟩
  case p5 =>
    intro D bq a' w' hk hc he hl hW
    (try dsimp only at hW)
    have f6 : a'.tmps.getD 6 undef = .pointer (some ⟨R4, 0, none⟩) := (hl 6).trans ((vsx_no rfl).trans rfl)
    have e0 : a'.tmps.getD 52 undef = .agg #[.int .u8 (adcV a m c), .bool (x || (y || u))] := (hl 52).trans (vsx_at (f := fun _ => .agg #[.int .u8 (adcV a m c), .bool (x || (y || u))]) rfl (he ⟨0, .data⟩ (by simp) rfl) rfl)
    have hM := hW
    simp only [hk, cond_false] at hM
    exact wp_sstoreA _ _ _ rfl rfl R4 f6 7 hM #[.int .u8 (0), .bool (false)] #[.int .u8 (adcV a m c), .bool (x || (y || u))] rfl e0 (by kernel_rfl) (by rfl) (by kernel_rfl) fun w1 hM1 => ⟨0, rfl, hM1⟩
  case p6 =>
    intro D bq a' w' hk hc he hl hW
    (try dsimp only at hW)
    have f7 : a'.tmps.getD 7 undef = .pointer (some ⟨R5, 0, none⟩) := (hl 7).trans ((vsx_no rfl).trans rfl)
    have e4 : a'.tmps.getD 56 undef = .agg #[.int .u8 (pbV (pbV (clr (nzP p (adcV a m c))) 1 (decide (256 ≤ a + m + c))) (64) (adcO a m c)), .int .u8 (pbV (pbV (clr (nzS s (x || (y || u)))) 1 (x || (y || u))) (64) (x || (y || u)))] := (hl 56).trans (vsx_at (f := fun _ => .agg #[.int .u8 (pbV (pbV (clr (nzP p (adcV a m c))) 1 (decide (256 ≤ a + m + c))) (64) (adcO a m c)), .int .u8 (pbV (pbV (clr (nzS s (x || (y || u)))) 1 (x || (y || u))) (64) (x || (y || u)))]) rfl (he ⟨4, .data⟩ (by simp) rfl) rfl)
    have hM := hW
    simp only [hk, cond_false] at hM
    exact wp_sstoreA _ _ _ rfl rfl R5 f7 6 hM #[.int .u8 (0), .int .u8 (0)] #[.int .u8 (pbV (pbV (clr (nzP p (adcV a m c))) 1 (decide (256 ≤ a + m + c))) (64) (adcO a m c)), .int .u8 (pbV (pbV (clr (nzS s (x || (y || u)))) 1 (x || (y || u))) (64) (x || (y || u)))] rfl e4 (by kernel_rfl) (by rfl) (by kernel_rfl) fun w1 hM1 => ⟨0, rfl, hM1⟩
  intro D bq w' hD hW
  (try dsimp only at hW)
  simp only [hD 4 (by decide), hD 5 (by decide), hD 6 (by decide), cond_true] at hW
  clear H hD
  have H := hW
  clear hW
  simp only [putAll, vsOf, Nat.reduceAdd, List.foldl_cons, List.foldl_nil, Act.put, List.setIfInBounds_toArray, List.set_cons_succ, List.set_cons_zero]
  go_wp2_with (first | go_skip)
  refine ret_memAA rfl _ _ rfl rfl 7 6 H _ _ rfl rfl (by kernel_rfl) (by kernel_rfl) (by kernel_rfl) (by kernel_rfl) rfl ?_
  exact ⟨by rw [clr_nzP, clr_nzS], H.toBelow⟩
set_option maxHeartbeats 2000000 in
theorem asbc_ct (p s a : Int) (x : Bool) (m : Int) (y : Bool) (w : World) (p0 : 0 ≤ p) (p1 : p < 256) (s0 : 0 ≤ s) (s1 : s < 256) (a0 : 0 ≤ a) (a1 : a < 256) (m0 : 0 ≤ m) (m1 : m < 256) :
    Calls Tryz.prog 231 #[.agg #[.int .u8 p, .int .u8 s], .agg #[.int .u8 a, .bool x], .agg #[.int .u8 m, .bool y]] w fun e w' => e = .returned (.tuple #[.agg #[.int .u8 (adcV a (255 - m) (cI p)), .bool (x || (y || hasV s 1))], .agg #[.int .u8 (adcP p a (255 - m) (cI p)), .int .u8 (adcS s (x || (y || hasV s 1)))]]) ∧ Below w.heap.size w w' := by
  obtain ⟨m2, m3⟩ := xor_le m 255 m0 m1 (by decide) (by decide)
  rw [← xor_255 m0 m1]
  have HZF := Lib.hid alloc_fl
  have HZB := Lib.hid alloc_by
  have H := Mem.start w
  have M1 : True := trivial
  have M2 : True := trivial
  have M3 : True := trivial
  have M4 : True := trivial
  have M5 : True := trivial
  go_enter Tryz.func231, Tryz.ntmps231
  go_wp2_with (first | (refine wpList_mboxA rfl _ _ rfl H _ rfl ?_; clear H; (first | (clear M1; intro R1 w1 _ H) | (clear M2; intro R2 w1 _ H) | (clear M3; intro R3 w1 _ H) | (clear M4; intro R4 w1 _ H) | (clear M5; intro R5 w1 _ H))) | go_skip | (refine wpList_mnew rfl _ rfl H _ HZF.out ?_; clear H; (first | (clear M1; intro R1 w1 _ H) | (clear M2; intro R2 w1 _ H) | (clear M3; intro R3 w1 _ H) | (clear M4; intro R4 w1 _ H) | (clear M5; intro R5 w1 _ H))) | (refine wpList_mnew rfl _ rfl H _ HZB.out ?_; clear H; (first | (clear M1; intro R1 w1 _ H) | (clear M2; intro R2 w1 _ H) | (clear M3; intro R3 w1 _ H) | (clear M4; intro R4 w1 _ H) | (clear M5; intro R5 w1 _ H))) | fail)
  (try simp only [Act.put, List.setIfInBounds_toArray, List.set_cons_succ, List.set_cons_zero])
  replace H : Mem w.heap.size [] w _ [(R5, #[.int .u8 (0), .int .u8 (0)]), (R4, #[.int .u8 (0), .bool (false)]), (R3, #[.int .u8 (m), .bool (y)]), (R2, #[.int .u8 (a), .bool (x)]), (R1, #[.int .u8 (p), .int .u8 (s)])] := H
  refine wp_region_x (by kernel_rfl) (by kernel_rfl) [(some 8, fun _ => .agg #[.int .u8 (p), .int .u8 (s)]), (some 9, fun _ => .agg #[.int .u8 (a), .bool (x)]), (some 10, fun _ => .agg #[.int .u8 (m), .bool (y)]), (some 11, fun _ => .agg #[.int .u8 (255), .bool (false)]), (some 12, fun _ => .agg #[.int .u8 (bits .xor .u8 (m) (255)), .bool ((y) || (false))]), (some 13, fun _ => .tuple #[.agg #[.int .u8 (adcV (a) (bits .xor .u8 (m) (255)) (cI (p))), .bool ((x) || (((y) || (false)) || hasV (s) 1))], .agg #[.int .u8 (adcP (p) (a) (bits .xor .u8 (m) (255)) (cI (p))), .int .u8 (adcS (s) ((x) || (((y) || (false)) || hasV (s) 1)))]]), (some 14, fun _ => .agg #[.int .u8 (adcV (a) (bits .xor .u8 (m) (255)) (cI (p))), .bool ((x) || (((y) || (false)) || hasV (s) 1))]), (some 15, fun _ => .agg #[.int .u8 (adcP (p) (a) (bits .xor .u8 (m) (255)) (cI (p))), .int .u8 (adcS (s) ((x) || (((y) || (false)) || hasV (s) 1)))]), (none, fun _ => undef), (none, fun _ => undef)] (fun D bq w => Mem _ _ _ w ([(R5, cond (D 9) #[.int .u8 (adcP (p) (a) (bits .xor .u8 (m) (255)) (cI (p))), .int .u8 (adcS (s) ((x) || (((y) || (false)) || hasV (s) 1)))] (#[.int .u8 (0), .int .u8 (0)])), (R4, cond (D 8) #[.int .u8 (adcV (a) (bits .xor .u8 (m) (255)) (cI (p))), .bool ((x) || (((y) || (false)) || hasV (s) 1))] (#[.int .u8 (0), .bool (false)])), (R3, #[.int .u8 (m), .bool (y)]), (R2, #[.int .u8 (a), .bool (x)]), (R1, #[.int .u8 (p), .int .u8 (s)])])) 16 (by rfl) (by rfl) (by rfl) H.drew ⟨⟨rfl, ?p0⟩, ⟨rfl, ?p1⟩, ⟨rfl, ?p2⟩, ⟨rfl, ?p3⟩, ⟨rfl, ?p4⟩, ⟨rfl, ?p5⟩, ⟨rfl, ?p6⟩, ⟨rfl, ?p7⟩, ⟨rfl, ?p8⟩, ⟨rfl, ?p9⟩, trivial⟩ ?_
  case p0 =>
    intro D bq a' w' hk hc he hl hW
    (try dsimp only at hW)
    have f3 : a'.tmps.getD 3 undef = .pointer (some ⟨R1, 0, none⟩) := (hl 3).trans ((vsx_no rfl).trans rfl)
    exact wp_sloadA _ _ rfl _ f3 4 hW #[.int .u8 (p), .int .u8 (s)] rfl (by kernel_rfl) (by kernel_rfl) ⟨0, rfl, hW⟩
  case p1 =>
    intro D bq a' w' hk hc he hl hW
    (try dsimp only at hW)
    have f4 : a'.tmps.getD 4 undef = .pointer (some ⟨R2, 0, none⟩) := (hl 4).trans ((vsx_no rfl).trans rfl)
    exact wp_sloadA _ _ rfl _ f4 3 hW #[.int .u8 (a), .bool (x)] rfl (by kernel_rfl) (by kernel_rfl) ⟨0, rfl, hW⟩
  case p2 =>
    intro D bq a' w' hk hc he hl hW
    (try dsimp only at hW)
    have f5 : a'.tmps.getD 5 undef = .pointer (some ⟨R3, 0, none⟩) := (hl 5).trans ((vsx_no rfl).trans rfl)
    exact wp_sloadA _ _ rfl _ f5 2 hW #[.int .u8 (m), .bool (y)] rfl (by kernel_rfl) (by kernel_rfl) ⟨0, rfl, hW⟩
  case p3 =>
    intro D bq a' w' hk hc he hl hW
    (try dsimp only at hW)
    refine wp_callp (vals := #[.int .u8 (255)]) rfl rfl (by simp only [List.map_toArray, List.map_cons, List.map_nil, Act.eval]) (by kernel_rfl) (low_ct (255) w') ?_
    rintro e w2 ⟨rfl, hB⟩
    exact ⟨_, rfl, 0, rfl, Mem.next hW hB⟩
  case p4 =>
    intro D bq a' w' hk hc he hl hW
    (try dsimp only at hW)
    have e2 : a'.tmps.getD 10 undef = .agg #[.int .u8 (m), .bool (y)] := (hl 10).trans (vsx_at (f := fun _ => .agg #[.int .u8 (m), .bool (y)]) rfl (he ⟨2, .data⟩ (by simp) rfl) rfl)
    have e3 : a'.tmps.getD 11 undef = .agg #[.int .u8 (255), .bool (false)] := (hl 11).trans (vsx_at (f := fun _ => .agg #[.int .u8 (255), .bool (false)]) rfl (he ⟨3, .data⟩ (by simp) rfl) rfl)
    refine wp_callp (vals := #[.agg #[.int .u8 (m), .bool (y)], .agg #[.int .u8 (255), .bool (false)]]) rfl rfl (by simp only [List.map_toArray, List.map_cons, List.map_nil, Act.eval, e2, e3]) (by kernel_rfl) (xor_ct (m) (255) (y) (false) w') ?_
    rintro e w2 ⟨rfl, hB⟩
    exact ⟨_, rfl, 0, rfl, Mem.next hW hB⟩
  case p5 =>
    intro D bq a' w' hk hc he hl hW
    (try dsimp only at hW)
    have e0 : a'.tmps.getD 8 undef = .agg #[.int .u8 (p), .int .u8 (s)] := (hl 8).trans (vsx_at (f := fun _ => .agg #[.int .u8 (p), .int .u8 (s)]) rfl (he ⟨0, .data⟩ (by simp) rfl) rfl)
    have e1 : a'.tmps.getD 9 undef = .agg #[.int .u8 (a), .bool (x)] := (hl 9).trans (vsx_at (f := fun _ => .agg #[.int .u8 (a), .bool (x)]) rfl (he ⟨1, .data⟩ (by simp) rfl) rfl)
    have e4 : a'.tmps.getD 12 undef = .agg #[.int .u8 (bits .xor .u8 (m) (255)), .bool ((y) || (false))] := (hl 12).trans (vsx_at (f := fun _ => .agg #[.int .u8 (bits .xor .u8 (m) (255)), .bool ((y) || (false))]) rfl (he ⟨4, .data⟩ (by simp) rfl) rfl)
    refine wp_callp (vals := #[.agg #[.int .u8 (p), .int .u8 (s)], .agg #[.int .u8 (a), .bool (x)], .agg #[.int .u8 (bits .xor .u8 (m) (255)), .bool ((y) || (false))]]) rfl rfl (by simp only [List.map_toArray, List.map_cons, List.map_nil, Act.eval, e0, e1, e4]) (by kernel_rfl) (aadc_ct (p) (s) (a) (x) (bits .xor .u8 (m) (255)) ((y) || (false)) w' (by first | assumption | decide | omega) (by first | assumption | decide | omega) (by first | assumption | decide | omega) (by first | assumption | decide | omega) (by first | assumption | decide | omega) (by first | assumption | decide | omega) (by first | assumption | decide | omega) (by first | assumption | decide | omega)) ?_
    rintro e w2 ⟨rfl, hB⟩
    exact ⟨_, rfl, 0, rfl, Mem.next hW hB⟩
  case p6 =>
    intro D bq a' w' hk hc he hl hW
    (try dsimp only at hW)
    have e5 : a'.tmps.getD 13 undef = .tuple #[.agg #[.int .u8 (adcV (a) (bits .xor .u8 (m) (255)) (cI (p))), .bool ((x) || (((y) || (false)) || hasV (s) 1))], .agg #[.int .u8 (adcP (p) (a) (bits .xor .u8 (m) (255)) (cI (p))), .int .u8 (adcS (s) ((x) || (((y) || (false)) || hasV (s) 1)))]] := (hl 13).trans (vsx_at (f := fun _ => .tuple #[.agg #[.int .u8 (adcV (a) (bits .xor .u8 (m) (255)) (cI (p))), .bool ((x) || (((y) || (false)) || hasV (s) 1))], .agg #[.int .u8 (adcP (p) (a) (bits .xor .u8 (m) (255)) (cI (p))), .int .u8 (adcS (s) ((x) || (((y) || (false)) || hasV (s) 1)))]]) rfl (he ⟨5, .data⟩ (by simp) rfl) rfl)
    exact wp_val (.agg #[.int .u8 (adcV (a) (bits .xor .u8 (m) (255)) (cI (p))), .bool ((x) || (((y) || (false)) || hasV (s) 1))]) (by simp only [execOp, Act.eval, List.map_toArray, List.map_cons, List.map_nil]; rw [e5]; kernel_rfl) ⟨0, rfl, hW⟩
  case p7 =>
    intro D bq a' w' hk hc he hl hW
    (try dsimp only at hW)
    have e5 : a'.tmps.getD 13 undef = .tuple #[.agg #[.int .u8 (adcV (a) (bits .xor .u8 (m) (255)) (cI (p))), .bool ((x) || (((y) || (false)) || hasV (s) 1))], .agg #[.int .u8 (adcP (p) (a) (bits .xor .u8 (m) (255)) (cI (p))), .int .u8 (adcS (s) ((x) || (((y) || (false)) || hasV (s) 1)))]] := (hl 13).trans (vsx_at (f := fun _ => .tuple #[.agg #[.int .u8 (adcV (a) (bits .xor .u8 (m) (255)) (cI (p))), .bool ((x) || (((y) || (false)) || hasV (s) 1))], .agg #[.int .u8 (adcP (p) (a) (bits .xor .u8 (m) (255)) (cI (p))), .int .u8 (adcS (s) ((x) || (((y) || (false)) || hasV (s) 1)))]]) rfl (he ⟨5, .data⟩ (by simp) rfl) rfl)
    exact wp_val (.agg #[.int .u8 (adcP (p) (a) (bits .xor .u8 (m) (255)) (cI (p))), .int .u8 (adcS (s) ((x) || (((y) || (false)) || hasV (s) 1)))]) (by simp only [execOp, Act.eval, List.map_toArray, List.map_cons, List.map_nil]; rw [e5]; kernel_rfl) ⟨0, rfl, hW⟩
  case p8 =>
    intro D bq a' w' hk hc he hl hW
    (try dsimp only at hW)
    have f6 : a'.tmps.getD 6 undef = .pointer (some ⟨R4, 0, none⟩) := (hl 6).trans ((vsx_no rfl).trans rfl)
    have e6 : a'.tmps.getD 14 undef = .agg #[.int .u8 (adcV (a) (bits .xor .u8 (m) (255)) (cI (p))), .bool ((x) || (((y) || (false)) || hasV (s) 1))] := (hl 14).trans (vsx_at (f := fun _ => .agg #[.int .u8 (adcV (a) (bits .xor .u8 (m) (255)) (cI (p))), .bool ((x) || (((y) || (false)) || hasV (s) 1))]) rfl (he ⟨6, .data⟩ (by simp) rfl) rfl)
    have hM := hW
    simp only [hk, cond_false] at hM
    exact wp_sstoreA _ _ _ rfl rfl R4 f6 1 hM #[.int .u8 (0), .bool (false)] #[.int .u8 (adcV (a) (bits .xor .u8 (m) (255)) (cI (p))), .bool ((x) || (((y) || (false)) || hasV (s) 1))] rfl e6 (by kernel_rfl) (by rfl) (by kernel_rfl) fun w1 hM1 => ⟨0, rfl, hM1⟩
  case p9 =>
    intro D bq a' w' hk hc he hl hW
    (try dsimp only at hW)
    have f7 : a'.tmps.getD 7 undef = .pointer (some ⟨R5, 0, none⟩) := (hl 7).trans ((vsx_no rfl).trans rfl)
    have e7 : a'.tmps.getD 15 undef = .agg #[.int .u8 (adcP (p) (a) (bits .xor .u8 (m) (255)) (cI (p))), .int .u8 (adcS (s) ((x) || (((y) || (false)) || hasV (s) 1)))] := (hl 15).trans (vsx_at (f := fun _ => .agg #[.int .u8 (adcP (p) (a) (bits .xor .u8 (m) (255)) (cI (p))), .int .u8 (adcS (s) ((x) || (((y) || (false)) || hasV (s) 1)))]) rfl (he ⟨7, .data⟩ (by simp) rfl) rfl)
    have hM := hW
    simp only [hk, cond_false] at hM
    exact wp_sstoreA _ _ _ rfl rfl R5 f7 0 hM #[.int .u8 (0), .int .u8 (0)] #[.int .u8 (adcP (p) (a) (bits .xor .u8 (m) (255)) (cI (p))), .int .u8 (adcS (s) ((x) || (((y) || (false)) || hasV (s) 1)))] rfl e7 (by kernel_rfl) (by rfl) (by kernel_rfl) fun w1 hM1 => ⟨0, rfl, hM1⟩
  intro D bq w' hD hW
  (try dsimp only at hW)
  simp only [hD 8 (by decide), hD 9 (by decide), cond_true] at hW
  clear H hD
  have H := hW
  clear hW
  simp only [putAll, vsOf, Nat.reduceAdd, List.foldl_cons, List.foldl_nil, Act.put, List.setIfInBounds_toArray, List.set_cons_succ, List.set_cons_zero]
  go_wp2_with (first | go_skip)
  refine ret_memAA rfl _ _ rfl rfl 1 0 H _ _ rfl rfl (by kernel_rfl) (by kernel_rfl) (by kernel_rfl) (by kernel_rfl) rfl ?_
  exact ⟨by simp only [Bool.or_false], H.toBelow⟩
end Go.Proofs.YtbonamhinnhlnaaGreatDoor
