/-
  Several texts in one: what is read and written by the functions on the way to the statements. Conditions stand in each theorem.
-/
import Derived.Test.YtbonamhinnhlnaaGreatDoorP13
namespace Go.Proofs.YtbonamhinnhlnaaGreatDoor
open Go.RowKit
set_option linter.unusedSimpArgs false
set_option linter.unusedVariables false
set_option maxRecDepth 20000

theorem run_alloc_by (o : Oper) (h : o.op = .alloc 23) (ρ : Operand → Value) (w : World) : (execOp ρ o).run Tryz.prog w = .ok (.value (ptrTo w.heap.size)) (w.alloc (.cells #[.int .u8 0, .bool false] 23)) := by
  unfold execOp
  rw [h]
  kernel_rfl
theorem run_alloc_fl (o : Oper) (h : o.op = .alloc 25) (ρ : Operand → Value) (w : World) : (execOp ρ o).run Tryz.prog w = .ok (.value (ptrTo w.heap.size)) (w.alloc (.cells #[.int .u8 0, .int .u8 0] 25)) := by
  unfold execOp
  rw [h]
  kernel_rfl
set_option maxHeartbeats 4000000 in
theorem aarr_ct (p s a : Int) (x : Bool) (m : Int) (y : Bool) (w : World) (p0 : 0 ≤ p) (p1 : p < 256) (s0 : 0 ≤ s) (s1 : s < 256) (a0 : 0 ≤ a) (a1 : a < 256) (m0 : 0 ≤ m) (m1 : m < 256) :
    Calls Tryz.prog 235 #[.agg #[.int .u8 p, .int .u8 s], .agg #[.int .u8 a, .bool x], .agg #[.int .u8 m, .bool y]] w fun e w' => e = .returned (.tuple #[.agg #[.int .u8 (arrV a m (cI p)), .bool (x || y || hasV s 1)], .agg #[.int .u8 (arrP p a m (cI p)), .int .u8 (arrS s (x || y) (hasV s 1))]]) ∧ Below w.heap.size w w' := by
  obtain ⟨n0, n1⟩ := bothV_le a m a0 a1 m0 m1
  have KA : ∀ wr : World, Calls Tryz.prog 227 #[.agg #[.int .u8 a, .bool x], .agg #[.int .u8 m, .bool y]] wr fun e w' => e = .returned (.agg #[.int .u8 (bothV a m), .bool (x || y)]) ∧ Below wr.heap.size wr w' := fun wr => and_ct a m x y wr
  have QA := Lib.hid KA
  clear KA
  have KR : ∀ wr : World, Calls Tryz.prog 226 #[.agg #[.int .u8 p, .int .u8 s], .agg #[.int .u8 (bothV a m), .bool (x || y)]] wr fun e w' => e = .returned (.tuple #[.agg #[.int .u8 (arrV a m (cI p)), .bool (x || y || hasV s 1)], .agg #[.int .u8 (rightP p (bothV a m) (cI p)), .int .u8 (rollS s (x || y) (hasV s 1))]]) ∧ Below wr.heap.size wr w' := fun wr => aror_ct p s (bothV a m) (x || y) wr p0 p1 s0 s1 n0 n1
  have QR := Lib.hid KR
  clear KR
  unfold arrP arrS
  generalize cI p = c at *
  generalize hasV s 1 = u at *
  generalize (x || y) = g at *
  generalize hl : (g || u) = l at *
  obtain ⟨v0, v1⟩ : 0 ≤ arrV a m c ∧ arrV a m c < 256 := rightV_le _ _
  obtain ⟨d0, d1⟩ : 0 ≤ rightP p (bothV a m) c ∧ rightP p (bothV a m) c < 256 := nzP_le _ _
  obtain ⟨e0, e1⟩ : 0 ≤ rollS s g u ∧ rollS s g u < 256 := nzS_le _ _
  rw [← put_clr (rightP p (bothV a m) c) 1 _ d0 d1, ← put_clr (rollS s g u) 1 _ e0 e1]
  have HZF := Lib.hid alloc_fl
  have HZB := Lib.hid alloc_by
  have H := Mem.start w
  have M1 : True := trivial
  have M2 : True := trivial
  have M3 : True := trivial
  have M4 : True := trivial
  have M5 : True := trivial
  have M6 : True := trivial
  have M7 : True := trivial
  have M8 : True := trivial
  go_enter Tryz.func235, Tryz.ntmps235
  go_wp2_with (first | (refine wpList_mboxA rfl _ _ rfl H _ rfl ?_; clear H; (first | (clear M1; intro R1 w1 _ H) | (clear M2; intro R2 w1 _ H) | (clear M3; intro R3 w1 _ H) | (clear M4; intro R4 w1 _ H) | (clear M5; intro R5 w1 _ H))) | go_skip | (refine wpList_mnew rfl _ rfl H _ HZF.out ?_; clear H; (first | (clear M1; intro R1 w1 _ H) | (clear M2; intro R2 w1 _ H) | (clear M3; intro R3 w1 _ H) | (clear M4; intro R4 w1 _ H) | (clear M5; intro R5 w1 _ H))) | (refine wpList_mnew rfl _ rfl H _ HZB.out ?_; clear H; (first | (clear M1; intro R1 w1 _ H) | (clear M2; intro R2 w1 _ H) | (clear M3; intro R3 w1 _ H) | (clear M4; intro R4 w1 _ H) | (clear M5; intro R5 w1 _ H))) | fail)
  (try simp only [Act.put, List.setIfInBounds_toArray, List.set_cons_succ, List.set_cons_zero])
  (refine wp_region_mem 33 [⟨8, 10, 99, ptrTo, #[.int .u8 0, .bool false], #[.int .u8 (arrV a m c), .bool (l)], undef⟩, ⟨9, 11, 99, ptrTo, #[.int .u8 0, .int .u8 0], #[.int .u8 (rightP p (bothV a m) c), .int .u8 (rollS s g u)], undef⟩] (by kernel_rfl) (by kernel_rfl) (by rfl) (by kernel_rfl) (fun _ => by kernel_rfl) (by simp) H fun β wy hwy => ?_); have H0 := H; replace H := H.next hwy; (simp only [swapL, swapO, List.find?_cons, List.find?_nil, Nat.reduceBEq, Nat.reduceAdd]); (repeat (first | (go_big_quiet_want; refine gate_qload _ _ rfl ?_; (first | (refine quiet_mloadA _ _ rfl _ rfl 2 H _ rfl (by decide +kernel) (by kernel_rfl) ?_) | (refine quiet_mloadA _ _ rfl _ rfl 3 H _ rfl (by decide +kernel) (by kernel_rfl) ?_) | (refine quiet_mloadA _ _ rfl _ rfl 4 H _ rfl (by decide +kernel) (by kernel_rfl) ?_)); simp only [Act.put, List.setIfInBounds_toArray, List.set_cons_succ, List.set_cons_zero]; go_big_quiet_on) | go_big_quiet_step ((first | (go_at_call 227; (with_reducible exact Calls.regrown_of (QA.out _))) | (go_at_call 226; (with_reducible exact Calls.regrown_of (QR.out _))))))); (refine wpQuiet_nil ?_); (refine ⟨⟨⟨⟨_, run_alloc_by _ rfl _⟩, ⟨rfl, by kernel_rfl, rfl, by kernel_rfl, fun _ => rfl⟩, trivial⟩, ⟨⟨_, run_alloc_fl _ rfl _⟩, ⟨rfl, by kernel_rfl, rfl, by kernel_rfl, fun _ => rfl⟩, trivial⟩, trivial⟩, fun wx HM => ?_⟩); clear H; have H := HM; clear HM H0 hwy; (dsimp only [boxesL, List.cons_append, List.nil_append] at H); (try dsimp only [ptrTo]); (try generalize hq0 : β 8 = q0 at *); (try generalize hq1 : β 9 = q1 at *)
  replace H : Mem w.heap.size [] w _ [(q0, #[.int .u8 (arrV a m c), .bool (l)]), (q1, #[.int .u8 (rightP p (bothV a m) c), .int .u8 (rollS s g u)]), (R5, #[.int .u8 (0), .int .u8 (0)]), (R4, #[.int .u8 (0), .bool (false)]), (R3, #[.int .u8 (m), .bool (y)]), (R2, #[.int .u8 (a), .bool (x)]), (R1, #[.int .u8 (p), .int .u8 (s)])] := H
  go_wp2_with (first | (go_at_call 217; (with_reducible refine (over_ct (rightP p (bothV a m) c) (rollS s g u) _ (by first | assumption | decide | omega) (by first | assumption | decide | omega) (by first | assumption | decide | omega) (by first | assumption | decide | omega)).mono ?_); first | (clear M6; rintro e w2 ⟨R6, T0, rfl, hR0, hB, hO⟩; replace H := H.add hB hR0 hO; clear hB hR0 hO)) | (go_at_call 234; (with_reducible refine (bit_ct (arrV a m c) 6 (l) _ v0 v1).mono ?_); rintro e w2 ⟨rfl, hB⟩; replace H := H.next hB; clear hB) | (go_at_call 238; obtain ⟨T0, hT⟩ := H.get (i := 0) rfl; (with_reducible refine (aput_ct (clr (rightP p (bothV a m) c)) (clr (rollS s g u)) (1) (bitV (arrV a m c) 6) (decide (arrV a m c / 64 % 2 = 1)) (l) (six_bit v0 v1) _ _ _ (by first | assumption | with_reducible exact (clr_le _ (by assumption) (by assumption)).1 | decide | omega) (by first | assumption | with_reducible exact (clr_le _ (by assumption) (by assumption)).2 | decide | omega) (by first | assumption | with_reducible exact (clr_le _ (by assumption) (by assumption)).1 | decide | omega) (by first | assumption | with_reducible exact (clr_le _ (by assumption) (by assumption)).2 | decide | omega) (by first | assumption | decide | omega) (by first | assumption | decide | omega) (by first | assumption | with_reducible exact clr_clr _ | with_reducible exact clr_put _ _ _ | with_reducible exact clr_nzP _ _ | with_reducible exact clr_nzS _ _ | decide) (by first | assumption | with_reducible exact clr_clr _ | with_reducible exact clr_put _ _ _ | with_reducible exact clr_nzP _ _ | with_reducible exact clr_nzS _ _ | decide) hT).mono ?_); rintro e w2 ⟨rfl, hm⟩; replace H := H.call (i := 0) rfl hm; clear hm hT; simp only [List.set_cons_zero, List.set_cons_succ] at H) | go_skip | (refine gate_load _ _ rfl ?_; first | (refine wpList_mloadA rfl _ _ rfl _ rfl 1 H _ rfl (by decide +kernel) (by kernel_rfl) ?_)) | fail)
  (try simp only [Act.put, List.setIfInBounds_toArray, List.set_cons_succ, List.set_cons_zero])
  replace H : Mem w.heap.size [] w _ [(R6, #[.int .u8 (pbV (clr (rightP p (bothV a m) c)) 1 (decide (arrV a m c / 64 % 2 = 1))), .int .u8 (pbV (clr (rollS s g u)) 1 (l))]), (q0, #[.int .u8 (arrV a m c), .bool (l)]), (q1, #[.int .u8 (rightP p (bothV a m) c), .int .u8 (rollS s g u)]), (R5, #[.int .u8 (0), .int .u8 (0)]), (R4, #[.int .u8 (0), .bool (false)]), (R3, #[.int .u8 (m), .bool (y)]), (R2, #[.int .u8 (a), .bool (x)]), (R1, #[.int .u8 (p), .int .u8 (s)])] := H
  refine wp_region_x (by kernel_rfl) (by kernel_rfl) [(some 25, fun _ => .agg #[.int .u8 (arrV a m c), .bool (l)]), (some 26, fun _ => .func (.func 238) #[] #[.pointer (some ⟨R6, 0, none⟩)]), (some 27, fun _ => .agg #[.int .u8 (arrV a m c), .bool (l)]), (some 28, fun _ => .agg #[.int .u8 (bitV (arrV a m c) (6)), .bool (l)]), (some 29, fun _ => .agg #[.int .u8 (arrV a m c), .bool (l)]), (some 30, fun _ => .agg #[.int .u8 (bitV (arrV a m c) (5)), .bool (l)]), (some 31, fun _ => .agg #[.int .u8 (bits .xor .u8 (bitV (arrV a m c) (6)) (bitV (arrV a m c) (5))), .bool ((l) || (l))]), (some 32, fun _ => .agg #[.int .u8 (pbV (pbV (clr (rightP p (bothV a m) c)) 1 (decide (arrV a m c / 64 % 2 = 1))) (64) (decide (arrV a m c / 64 % 2 ≠ arrV a m c / 32 % 2))), .int .u8 (pbV (pbV (clr (rollS s g u)) 1 (l)) (64) ((l) || (l)))]), (none, fun _ => undef), (none, fun _ => undef)] (fun D bq w => Mem _ _ _ w ([(R6, cond (D 7) #[.int .u8 (pbV (pbV (clr (rightP p (bothV a m) c)) 1 (decide (arrV a m c / 64 % 2 = 1))) (64) (decide (arrV a m c / 64 % 2 ≠ arrV a m c / 32 % 2))), .int .u8 (pbV (pbV (clr (rollS s g u)) 1 (l)) (64) ((l) || (l)))] (#[.int .u8 (pbV (clr (rightP p (bothV a m) c)) 1 (decide (arrV a m c / 64 % 2 = 1))), .int .u8 (pbV (clr (rollS s g u)) 1 (l))])), (q0, #[.int .u8 (arrV a m c), .bool (l)]), (q1, #[.int .u8 (rightP p (bothV a m) c), .int .u8 (rollS s g u)]), (R5, cond (D 9) #[.int .u8 (pbV (pbV (clr (rightP p (bothV a m) c)) 1 (decide (arrV a m c / 64 % 2 = 1))) (64) (decide (arrV a m c / 64 % 2 ≠ arrV a m c / 32 % 2))), .int .u8 (pbV (pbV (clr (rollS s g u)) 1 (l)) (64) ((l) || (l)))] (#[.int .u8 (0), .int .u8 (0)])), (R4, cond (D 8) #[.int .u8 (arrV a m c), .bool (l)] (#[.int .u8 (0), .bool (false)])), (R3, #[.int .u8 (m), .bool (y)]), (R2, #[.int .u8 (a), .bool (x)]), (R1, #[.int .u8 (p), .int .u8 (s)])])) 33 (by rfl) (by rfl) (by rfl) H.drew ⟨⟨rfl, ?p0⟩, ⟨rfl, ?p1⟩, ⟨rfl, ?p2⟩, ⟨rfl, ?p3⟩, ⟨rfl, ?p4⟩, ⟨rfl, ?p5⟩, ⟨rfl, ?p6⟩, ⟨rfl, ?p7⟩, ⟨rfl, ?p8⟩, ⟨rfl, ?p9⟩, trivial⟩ ?_
  case p0 =>
    intro D bq a' w' hk hc he hl hW
    (try dsimp only at hW)
    have f8 : a'.tmps.getD 8 undef = .pointer (some ⟨q0, 0, none⟩) := (hl 8).trans ((vsx_no rfl).trans rfl)
    exact wp_sloadA _ _ rfl _ f8 1 hW #[.int .u8 (arrV a m c), .bool (l)] rfl (by kernel_rfl) (by kernel_rfl) ⟨0, rfl, hW⟩
  case p1 =>
    intro D bq a' w' hk hc he hl hW
    (try dsimp only at hW)
    have f10 : a'.tmps.getD 10 undef = .func (.func 238) #[] #[.pointer (some ⟨R6, 0, none⟩)] := (hl 10).trans ((vsx_no rfl).trans rfl)
    exact wp_val (.func (.func 238) #[] #[.pointer (some ⟨R6, 0, none⟩)]) (by simp only [execOp, Act.eval, List.map_toArray, List.map_cons, List.map_nil]; rw [f10]; kernel_rfl) ⟨0, rfl, hW⟩
  case p2 =>
    intro D bq a' w' hk hc he hl hW
    (try dsimp only at hW)
    have f8 : a'.tmps.getD 8 undef = .pointer (some ⟨q0, 0, none⟩) := (hl 8).trans ((vsx_no rfl).trans rfl)
    exact wp_sloadA _ _ rfl _ f8 1 hW #[.int .u8 (arrV a m c), .bool (l)] rfl (by kernel_rfl) (by kernel_rfl) ⟨0, rfl, hW⟩
  case p3 =>
    intro D bq a' w' hk hc he hl hW
    (try dsimp only at hW)
    have e2 : a'.tmps.getD 27 undef = .agg #[.int .u8 (arrV a m c), .bool (l)] := (hl 27).trans (vsx_at (f := fun _ => .agg #[.int .u8 (arrV a m c), .bool (l)]) rfl (he ⟨2, .data⟩ (by simp) rfl) rfl)
    refine wp_callp (vals := #[.agg #[.int .u8 (arrV a m c), .bool (l)], .int .i64 (6)]) rfl rfl (by simp only [List.map_toArray, List.map_cons, List.map_nil, Act.eval, e2]) (by kernel_rfl) (bit_ct (arrV a m c) (6) (l) w' (by first | assumption | decide | omega) (by first | assumption | decide | omega)) ?_
    rintro e w2 ⟨rfl, hB⟩
    exact ⟨_, rfl, 0, rfl, Mem.next hW hB⟩
  case p4 =>
    intro D bq a' w' hk hc he hl hW
    (try dsimp only at hW)
    have f8 : a'.tmps.getD 8 undef = .pointer (some ⟨q0, 0, none⟩) := (hl 8).trans ((vsx_no rfl).trans rfl)
    exact wp_sloadA _ _ rfl _ f8 1 hW #[.int .u8 (arrV a m c), .bool (l)] rfl (by kernel_rfl) (by kernel_rfl) ⟨0, rfl, hW⟩
  case p5 =>
    intro D bq a' w' hk hc he hl hW
    (try dsimp only at hW)
    have e4 : a'.tmps.getD 29 undef = .agg #[.int .u8 (arrV a m c), .bool (l)] := (hl 29).trans (vsx_at (f := fun _ => .agg #[.int .u8 (arrV a m c), .bool (l)]) rfl (he ⟨4, .data⟩ (by simp) rfl) rfl)
    refine wp_callp (vals := #[.agg #[.int .u8 (arrV a m c), .bool (l)], .int .i64 (5)]) rfl rfl (by simp only [List.map_toArray, List.map_cons, List.map_nil, Act.eval, e4]) (by kernel_rfl) (bit_ct (arrV a m c) (5) (l) w' (by first | assumption | decide | omega) (by first | assumption | decide | omega)) ?_
    rintro e w2 ⟨rfl, hB⟩
    exact ⟨_, rfl, 0, rfl, Mem.next hW hB⟩
  case p6 =>
    intro D bq a' w' hk hc he hl hW
    (try dsimp only at hW)
    have e3 : a'.tmps.getD 28 undef = .agg #[.int .u8 (bitV (arrV a m c) (6)), .bool (l)] := (hl 28).trans (vsx_at (f := fun _ => .agg #[.int .u8 (bitV (arrV a m c) (6)), .bool (l)]) rfl (he ⟨3, .data⟩ (by simp) rfl) rfl)
    have e5 : a'.tmps.getD 30 undef = .agg #[.int .u8 (bitV (arrV a m c) (5)), .bool (l)] := (hl 30).trans (vsx_at (f := fun _ => .agg #[.int .u8 (bitV (arrV a m c) (5)), .bool (l)]) rfl (he ⟨5, .data⟩ (by simp) rfl) rfl)
    refine wp_callp (vals := #[.agg #[.int .u8 (bitV (arrV a m c) (6)), .bool (l)], .agg #[.int .u8 (bitV (arrV a m c) (5)), .bool (l)]]) rfl rfl (by simp only [List.map_toArray, List.map_cons, List.map_nil, Act.eval, e3, e5]) (by kernel_rfl) (xor_ct (bitV (arrV a m c) (6)) (bitV (arrV a m c) (5)) (l) (l) w') ?_
    rintro e w2 ⟨rfl, hB⟩
    exact ⟨_, rfl, 0, rfl, Mem.next hW hB⟩
  case p7 =>
    intro D bq a' w' hk hc he hl hW
    (try dsimp only at hW)
    have e6 : a'.tmps.getD 31 undef = .agg #[.int .u8 (bits .xor .u8 (bitV (arrV a m c) (6)) (bitV (arrV a m c) (5))), .bool ((l) || (l))] := (hl 31).trans (vsx_at (f := fun _ => .agg #[.int .u8 (bits .xor .u8 (bitV (arrV a m c) (6)) (bitV (arrV a m c) (5))), .bool ((l) || (l))]) rfl (he ⟨6, .data⟩ (by simp) rfl) rfl)
    have e1 : a'.tmps.getD 26 undef = .func (.func 238) #[] #[.pointer (some ⟨R6, 0, none⟩)] := (hl 26).trans (vsx_at (f := fun _ => .func (.func 238) #[] #[.pointer (some ⟨R6, 0, none⟩)]) rfl (he ⟨1, .data⟩ (by simp) rfl) rfl)
    have hM := hW
    simp only [hk, cond_false, cond_true] at hM
    obtain ⟨T, hT⟩ := Mem.get hM (i := 0) rfl
    refine wp_callc (caps := #[.pointer (some ⟨R6, 0, none⟩)]) (vals := #[.int .u8 (64), .agg #[.int .u8 (bits .xor .u8 (bitV (arrV a m c) (6)) (bitV (arrV a m c) (5))), .bool ((l) || (l))]]) rfl rfl (e1) (by simp only [List.map_toArray, List.map_cons, List.map_nil, Act.eval, e6]) (by kernel_rfl) (by simp only [List.append_toArray, List.cons_append, List.nil_append]) (aput_ct (pbV (clr (rightP p (bothV a m) c)) 1 (decide (arrV a m c / 64 % 2 = 1))) (pbV (clr (rollS s g u)) 1 (l)) (64) (bits .xor .u8 (bitV (arrV a m c) (6)) (bitV (arrV a m c) (5))) (decide (arrV a m c / 64 % 2 ≠ arrV a m c / 32 % 2)) ((l) || (l)) (two_bit v0 v1) _ T w' (by first | assumption | with_reducible exact (pbV_le _ _ _).1 | decide | omega) (by first | assumption | with_reducible exact (pbV_le _ _ _).2 | decide | omega) (by first | assumption | with_reducible exact (pbV_le _ _ _).1 | decide | omega) (by first | assumption | with_reducible exact (pbV_le _ _ _).2 | decide | omega) (by first | assumption | decide | omega) (by first | assumption | decide | omega) (by first | assumption | with_reducible exact clr_clr _ | with_reducible exact clr_put _ _ _ | with_reducible exact clr_nzP _ _ | with_reducible exact clr_nzS _ _ | decide) (by first | assumption | with_reducible exact clr_clr _ | with_reducible exact clr_put _ _ _ | with_reducible exact clr_nzP _ _ | with_reducible exact clr_nzS _ _ | decide) hT) ?_
    rintro e w2 ⟨rfl, hm⟩
    exact ⟨_, rfl, 0, rfl, Mem.call hM (i := 0) rfl hm⟩
  case p8 =>
    intro D bq a' w' hk hc he hl hW
    (try dsimp only at hW)
    have f6 : a'.tmps.getD 6 undef = .pointer (some ⟨R4, 0, none⟩) := (hl 6).trans ((vsx_no rfl).trans rfl)
    have e0 : a'.tmps.getD 25 undef = .agg #[.int .u8 (arrV a m c), .bool (l)] := (hl 25).trans (vsx_at (f := fun _ => .agg #[.int .u8 (arrV a m c), .bool (l)]) rfl (he ⟨0, .data⟩ (by simp) rfl) rfl)
    have hM := hW
    simp only [hk, cond_false] at hM
    exact wp_sstoreA _ _ _ rfl rfl R4 f6 4 hM #[.int .u8 (0), .bool (false)] #[.int .u8 (arrV a m c), .bool (l)] rfl e0 (by kernel_rfl) (by rfl) (by kernel_rfl) fun w1 hM1 => ⟨0, rfl, hM1⟩
  case p9 =>
    intro D bq a' w' hk hc he hl hW
    (try dsimp only at hW)
    have f7 : a'.tmps.getD 7 undef = .pointer (some ⟨R5, 0, none⟩) := (hl 7).trans ((vsx_no rfl).trans rfl)
    have e7 : a'.tmps.getD 32 undef = .agg #[.int .u8 (pbV (pbV (clr (rightP p (bothV a m) c)) 1 (decide (arrV a m c / 64 % 2 = 1))) (64) (decide (arrV a m c / 64 % 2 ≠ arrV a m c / 32 % 2))), .int .u8 (pbV (pbV (clr (rollS s g u)) 1 (l)) (64) ((l) || (l)))] := (hl 32).trans (vsx_at (f := fun _ => .agg #[.int .u8 (pbV (pbV (clr (rightP p (bothV a m) c)) 1 (decide (arrV a m c / 64 % 2 = 1))) (64) (decide (arrV a m c / 64 % 2 ≠ arrV a m c / 32 % 2))), .int .u8 (pbV (pbV (clr (rollS s g u)) 1 (l)) (64) ((l) || (l)))]) rfl (he ⟨7, .data⟩ (by simp) rfl) rfl)
    have hM := hW
    simp only [hk, cond_false] at hM
    exact wp_sstoreA _ _ _ rfl rfl R5 f7 3 hM #[.int .u8 (0), .int .u8 (0)] #[.int .u8 (pbV (pbV (clr (rightP p (bothV a m) c)) 1 (decide (arrV a m c / 64 % 2 = 1))) (64) (decide (arrV a m c / 64 % 2 ≠ arrV a m c / 32 % 2))), .int .u8 (pbV (pbV (clr (rollS s g u)) 1 (l)) (64) ((l) || (l)))] rfl e7 (by kernel_rfl) (by rfl) (by kernel_rfl) fun w1 hM1 => ⟨0, rfl, hM1⟩
  intro D bq w' hD hW
  (try dsimp only at hW)
  simp only [hD 7 (by decide), hD 8 (by decide), hD 9 (by decide), cond_true] at hW
  clear H hD
  have H := hW
  clear hW
  simp only [putAll, vsOf, Nat.reduceAdd, List.foldl_cons, List.foldl_nil, Act.put, List.setIfInBounds_toArray, List.set_cons_succ, List.set_cons_zero]
  go_wp2_with (first | go_skip)
  refine ret_memAA rfl _ _ rfl rfl 4 3 H _ _ rfl rfl (by kernel_rfl) (by kernel_rfl) (by kernel_rfl) (by kernel_rfl) rfl ?_
  exact ⟨by simp only [Bool.or_self], H.toBelow⟩
end Go.Proofs.YtbonamhinnhlnaaGreatDoor
