/-
  Several texts in one: what is read and written by the functions on the way to the statements. Conditions stand in each theorem.
-/
import Derived.Test.YtbonamhinnhlnaaGreatDoorP10
namespace Go.Proofs.YtbonamhinnhlnaaGreatDoor
open Go.RowKit
set_option linter.unusedSimpArgs false
set_option linter.unusedVariables false
set_option maxRecDepth 20000

set_option maxHeartbeats 2000000 in
theorem aset_ct (p s b v : Int) (z x : Bool) (hz : (v != 0) = z) (w : World) (p0 : 0 ≤ p) (p1 : p < 256) (s0 : 0 ≤ s) (s1 : s < 256) (b0 : 0 ≤ b) (b1 : b < 256) :
    Calls Tryz.prog 219 #[.agg #[.int .u8 p, .int .u8 s], .int .u8 b, .agg #[.int .u8 v, .bool x]] w fun e w' => e = .returned (.agg #[.int .u8 (pbV p b z), .int .u8 (pbV s b x)]) ∧ Below w.heap.size w w' := by
  rw [← put_clr p b z p0 p1, ← put_clr s b x s0 s1]
  have HZF := Lib.hid alloc_fl
  have HZB := Lib.hid alloc_by
  have H := Mem.start w
  have M1 : True := trivial
  have M2 : True := trivial
  have M3 : True := trivial
  go_enter Tryz.func219, Tryz.ntmps219
  go_wp2_with (first | (refine wpList_mboxA rfl _ _ rfl H _ rfl ?_; clear H; (first | (clear M1; intro R1 w1 _ H) | (clear M2; intro R2 w1 _ H) | (clear M3; intro R3 w1 _ H))) | go_skip | (refine wpList_mnew rfl _ rfl H _ HZF.out ?_; clear H; (first | (clear M1; intro R1 w1 _ H) | (clear M2; intro R2 w1 _ H) | (clear M3; intro R3 w1 _ H))) | fail)
  (try simp only [Act.put, List.setIfInBounds_toArray, List.set_cons_succ, List.set_cons_zero])
  replace H : Mem w.heap.size [] w w1 [(R3, #[.int .u8 (0), .int .u8 (0)]), (R2, #[.int .u8 (v), .bool (x)]), (R1, #[.int .u8 (p), .int .u8 (s)])] := H
  refine wp_region_x (by kernel_rfl) (by kernel_rfl) [(some 7, fun _ => .agg #[.int .u8 (p), .int .u8 (s)]), (some 8, fun R => .func (.func 238) #[] #[.pointer (some ⟨R, 0, none⟩)]), (some 9, fun _ => .int .u8 (b)), (some 10, fun _ => .agg #[.int .u8 (v), .bool (x)]), (some 11, fun _ => .agg #[.int .u8 (pbV (clr (p)) (b) (z)), .int .u8 (pbV (clr (s)) (b) (x))]), (none, fun _ => undef)] (fun D bq w => Mem _ _ _ w (cond (D 1) ((bq 1, cond (D 4) #[.int .u8 (pbV (clr (p)) (b) (z)), .int .u8 (pbV (clr (s)) (b) (x))] (#[.int .u8 (clr (p)), .int .u8 (clr (s))])) :: [(R3, cond (D 5) #[.int .u8 (pbV (clr (p)) (b) (z)), .int .u8 (pbV (clr (s)) (b) (x))] (#[.int .u8 (0), .int .u8 (0)])), (R2, #[.int .u8 (v), .bool (x)]), (R1, #[.int .u8 (p), .int .u8 (s)])]) [(R3, cond (D 5) #[.int .u8 (pbV (clr (p)) (b) (z)), .int .u8 (pbV (clr (s)) (b) (x))] (#[.int .u8 (0), .int .u8 (0)])), (R2, #[.int .u8 (v), .bool (x)]), (R1, #[.int .u8 (p), .int .u8 (s)])])) 12 (by rfl) (by rfl) (by rfl) H.drew ⟨⟨rfl, ?p0⟩, ⟨rfl, ?p1⟩, ⟨rfl, ?p2⟩, ⟨rfl, ?p3⟩, ⟨rfl, ?p4⟩, ⟨rfl, ?p5⟩, trivial⟩ ?_
  case p0 =>
    intro D bq a' w' hk hc he hl hW
    (try dsimp only at hW)
    have f3 : a'.tmps.getD 3 undef = .pointer (some ⟨R1, 0, none⟩) := (hl 3).trans ((vsx_no rfl).trans rfl)
    exact wp_sloadA _ _ rfl _ f3 2 (Mem.condB hW) #[.int .u8 (p), .int .u8 (s)] rfl (by kernel_rfl) (by kernel_rfl) ⟨0, rfl, hW⟩
  case p1 =>
    intro D bq a' w' hk hc he hl hW
    (try dsimp only at hW)
    have e0 : a'.tmps.getD 7 undef = .agg #[.int .u8 (p), .int .u8 (s)] := (hl 7).trans (vsx_at (f := fun _ => .agg #[.int .u8 (p), .int .u8 (s)]) rfl (he ⟨0, .data⟩ (by simp) rfl) rfl)
    have hM := Mem.ofF hk hW
    refine wp_callp (vals := #[.agg #[.int .u8 (p), .int .u8 (s)]]) rfl rfl (by simp only [List.map_toArray, List.map_cons, List.map_nil, Act.eval, e0]) (by kernel_rfl) (over_ct (p) (s) w' (by first | assumption | decide | omega) (by first | assumption | decide | omega) (by first | assumption | decide | omega) (by first | assumption | decide | omega)) ?_
    rintro e w2 ⟨R, T, rfl, hR, hB, hO⟩
    have hA := Mem.add hM hB hR hO
    have n4 : D 4 = false := hc.no .data hk rfl (by simp) rfl
    refine ⟨_, rfl, R, rfl, ?_⟩
    show Mem _ _ _ w2 ((R, cond (D 4) _ (_)) :: _)
    rw [n4]
    exact hA
  case p2 =>
    intro D bq a' w' hk hc he hl hW
    (try dsimp only at hW)
    have f1 : a'.tmps.getD 1 undef = .int .u8 (b) := (hl 1).trans ((vsx_no rfl).trans rfl)
    exact wp_val (.int .u8 (b)) (by simp only [execOp, Act.eval, List.map_toArray, List.map_cons, List.map_nil]; rw [f1]; kernel_rfl) ⟨0, rfl, hW⟩
  case p3 =>
    intro D bq a' w' hk hc he hl hW
    (try dsimp only at hW)
    have f5 : a'.tmps.getD 5 undef = .pointer (some ⟨R2, 0, none⟩) := (hl 5).trans ((vsx_no rfl).trans rfl)
    exact wp_sloadA _ _ rfl _ f5 1 (Mem.condB hW) #[.int .u8 (v), .bool (x)] rfl (by kernel_rfl) (by kernel_rfl) ⟨0, rfl, hW⟩
  case p4 =>
    intro D bq a' w' hk hc he hl hW
    (try dsimp only at hW)
    have e2 : a'.tmps.getD 9 undef = .int .u8 (b) := (hl 9).trans (vsx_at (f := fun _ => .int .u8 (b)) rfl (he ⟨2, .data⟩ (by simp) rfl) rfl)
    have e3 : a'.tmps.getD 10 undef = .agg #[.int .u8 (v), .bool (x)] := (hl 10).trans (vsx_at (f := fun _ => .agg #[.int .u8 (v), .bool (x)]) rfl (he ⟨3, .data⟩ (by simp) rfl) rfl)
    have e1 : a'.tmps.getD 8 undef = .func (.func 238) #[] #[.pointer (some ⟨bq 1, 0, none⟩)] := (hl 8).trans (vsx_at (f := fun R => .func (.func 238) #[] #[.pointer (some ⟨R, 0, none⟩)]) rfl (he ⟨1, .data⟩ (by simp) rfl) rfl)
    have h1 := he ⟨1, .data⟩ (by simp) rfl
    have hM := hW
    simp only [hk, h1, cond_false, cond_true] at hM
    obtain ⟨T, hT⟩ := Mem.get hM (i := 0) rfl
    refine wp_callc (caps := #[.pointer (some ⟨bq 1, 0, none⟩)]) (vals := #[.int .u8 (b), .agg #[.int .u8 (v), .bool (x)]]) rfl rfl (e1) (by simp only [List.map_toArray, List.map_cons, List.map_nil, Act.eval, e2, e3]) (by kernel_rfl) (by simp only [List.append_toArray, List.cons_append, List.nil_append]) (aput_ct (clr (p)) (clr (s)) (b) (v) (z) (x) (hz) _ T w' (by first | assumption | exact (clr_le _ (by assumption) (by assumption)).1 | decide | omega) (by first | assumption | exact (clr_le _ (by assumption) (by assumption)).2 | decide | omega) (by first | assumption | exact (clr_le _ (by assumption) (by assumption)).1 | decide | omega) (by first | assumption | exact (clr_le _ (by assumption) (by assumption)).2 | decide | omega) (by first | assumption | decide | omega) (by first | assumption | decide | omega) (by first | assumption | exact clr_clr _ | exact clr_put _ _ _ | exact clr_nzP _ _ | exact clr_nzS _ _ | decide) (by first | assumption | exact clr_clr _ | exact clr_put _ _ _ | exact clr_nzP _ _ | exact clr_nzS _ _ | decide) hT) ?_
    rintro e w2 ⟨rfl, hm⟩
    exact ⟨_, rfl, 0, rfl, Mem.condT h1 (Mem.call hM (i := 0) rfl hm)⟩
  case p5 =>
    intro D bq a' w' hk hc he hl hW
    (try dsimp only at hW)
    have f6 : a'.tmps.getD 6 undef = .pointer (some ⟨R3, 0, none⟩) := (hl 6).trans ((vsx_no rfl).trans rfl)
    have e4 : a'.tmps.getD 11 undef = .agg #[.int .u8 (pbV (clr (p)) (b) (z)), .int .u8 (pbV (clr (s)) (b) (x))] := (hl 11).trans (vsx_at (f := fun _ => .agg #[.int .u8 (pbV (clr (p)) (b) (z)), .int .u8 (pbV (clr (s)) (b) (x))]) rfl (he ⟨4, .data⟩ (by simp) rfl) rfl)
    have hM := hW
    simp only [hk, cond_false] at hM
    exact wp_sstoreAC _ _ _ rfl rfl R3 f6 0 hM #[.int .u8 (0), .int .u8 (0)] #[.int .u8 (pbV (clr (p)) (b) (z)), .int .u8 (pbV (clr (s)) (b) (x))] rfl e4 (by kernel_rfl) (by rfl) (by kernel_rfl) fun w1 hM1 => ⟨0, rfl, hM1⟩
  intro D bq w' hD hW
  (try dsimp only at hW)
  simp only [hD 1 (by decide), hD 4 (by decide), hD 5 (by decide), cond_true] at hW
  clear H hD
  have H := hW
  clear hW
  simp only [putAll, vsOf, Nat.reduceAdd, List.foldl_cons, List.foldl_nil, Act.put, List.setIfInBounds_toArray, List.set_cons_succ, List.set_cons_zero]
  (try generalize bq 1 = q1 at *)
  go_wp2_with (first | go_skip)
  refine ret_mem1 rfl _ rfl 1 H _ rfl (by kernel_rfl) (by kernel_rfl) rfl ?_
  exact ⟨rfl, H.toBelow⟩
set_option maxHeartbeats 2000000 in
theorem aget_ct (p s b : Int) (w : World) (p0 : 0 ≤ p) (p1 : p < 256) (s0 : 0 ≤ s) (s1 : s < 256) (b0 : 0 ≤ b) (b1 : b < 256) :
    Calls Tryz.prog 85 #[.agg #[.int .u8 p, .int .u8 s], .int .u8 b] w fun e w' => e = .returned (.agg #[.int .u8 (oneI (hasV p b)), .bool (hasV s b)]) ∧ Below w.heap.size w w' := by
  rw [← has_pro p b p0 p1 b0 b1, ← has_pro s b s0 s1 b0 b1]
  have HZF := Lib.hid alloc_fl
  have HZB := Lib.hid alloc_by
  have H := Mem.start w
  have M1 : True := trivial
  have M2 : True := trivial
  go_enter Tryz.func85, Tryz.ntmps85
  go_wp2_with (first | (refine wpList_mboxA rfl _ _ rfl H _ rfl ?_; clear H; (first | (clear M1; intro R1 w1 _ H) | (clear M2; intro R2 w1 _ H))) | go_skip | (refine wpList_mnew rfl _ rfl H _ HZB.out ?_; clear H; (first | (clear M1; intro R1 w1 _ H) | (clear M2; intro R2 w1 _ H))) | fail)
  (try simp only [Act.put, List.setIfInBounds_toArray, List.set_cons_succ, List.set_cons_zero])
  replace H : Mem w.heap.size [] w w1 [(R2, #[.int .u8 (0), .bool (false)]), (R1, #[.int .u8 (p), .int .u8 (s)])] := H
  refine wp_region_x (by kernel_rfl) (by kernel_rfl) [(some 7, fun _ => .pointer (some ⟨R1, 0, none⟩)), (some 8, fun _ => .int .u8 (p)), (some 9, fun _ => .int .u8 (bits .and .u8 b 207)), (some 10, fun _ => .int .u8 (bits .and .u8 (p) (bits .and .u8 b 207))), (some 11, fun _ => .bool ((bits .and .u8 (p) (bits .and .u8 b 207)) != 0)), (some 12, fun _ => .int .u8 (oneI ((bits .and .u8 (p) (bits .and .u8 b 207)) != 0))), (some 13, fun _ => .pointer (some ⟨R1, 1, none⟩)), (some 14, fun _ => .int .u8 (s)), (some 15, fun _ => .int .u8 (bits .and .u8 b 207)), (some 16, fun _ => .int .u8 (bits .and .u8 (s) (bits .and .u8 b 207))), (some 17, fun _ => .bool ((bits .and .u8 (s) (bits .and .u8 b 207)) != 0)), (some 18, fun _ => .agg #[.int .u8 (oneI ((bits .and .u8 (p) (bits .and .u8 b 207)) != 0)), .bool ((bits .and .u8 (s) (bits .and .u8 b 207)) != 0)]), (none, fun _ => undef)] (fun D bq w => Mem _ _ _ w ([(R2, cond (D 12) #[.int .u8 (oneI ((bits .and .u8 (p) (bits .and .u8 b 207)) != 0)), .bool ((bits .and .u8 (s) (bits .and .u8 b 207)) != 0)] (#[.int .u8 (0), .bool (false)])), (R1, #[.int .u8 (p), .int .u8 (s)])])) 19 (by rfl) (by rfl) (by rfl) H.drew ⟨⟨rfl, ?p0⟩, ⟨rfl, ?p1⟩, ⟨rfl, ?p2⟩, ⟨rfl, ?p3⟩, ⟨rfl, ?p4⟩, ⟨rfl, ?p5⟩, ⟨rfl, ?p6⟩, ⟨rfl, ?p7⟩, ⟨rfl, ?p8⟩, ⟨rfl, ?p9⟩, ⟨rfl, ?p10⟩, ⟨rfl, ?p11⟩, ⟨rfl, ?p12⟩, trivial⟩ ?_
  case p0 =>
    intro D bq a' w' hk hc he hl hW
    (try dsimp only at hW)
    have f2 : a'.tmps.getD 2 undef = .pointer (some ⟨R1, 0, none⟩) := (hl 2).trans ((vsx_no rfl).trans rfl)
    exact wp_val (.pointer (some ⟨R1, 0, none⟩)) (by simp only [execOp, Act.eval, List.map_toArray, List.map_cons, List.map_nil]; rw [f2]; kernel_rfl) ⟨0, rfl, hW⟩
  case p1 =>
    intro D bq a' w' hk hc he hl hW
    (try dsimp only at hW)
    have e0 : a'.tmps.getD 7 undef = .pointer (some ⟨R1, 0, none⟩) := (hl 7).trans (vsx_at (f := fun _ => .pointer (some ⟨R1, 0, none⟩)) rfl (he ⟨0, .data⟩ (by simp) rfl) rfl)
    exact wp_sload1 _ _ rfl _ _ e0 1 hW _ (.int .u8 (p)) rfl rfl (by decide +kernel) ⟨0, rfl, hW⟩
  case p2 =>
    intro D bq a' w' hk hc he hl hW
    (try dsimp only at hW)
    have f1 : a'.tmps.getD 1 undef = .int .u8 (bits .and .u8 b 207) := (hl 1).trans ((vsx_no rfl).trans rfl)
    exact wp_val (.int .u8 (bits .and .u8 b 207)) (by simp only [execOp, Act.eval, List.map_toArray, List.map_cons, List.map_nil]; rw [f1]; kernel_rfl) ⟨0, rfl, hW⟩
  case p3 =>
    intro D bq a' w' hk hc he hl hW
    (try dsimp only at hW)
    have e1 : a'.tmps.getD 8 undef = .int .u8 (p) := (hl 8).trans (vsx_at (f := fun _ => .int .u8 (p)) rfl (he ⟨1, .data⟩ (by simp) rfl) rfl)
    have e2 : a'.tmps.getD 9 undef = .int .u8 (bits .and .u8 b 207) := (hl 9).trans (vsx_at (f := fun _ => .int .u8 (bits .and .u8 b 207)) rfl (he ⟨2, .data⟩ (by simp) rfl) rfl)
    exact wp_val (.int .u8 (bits .and .u8 (p) (bits .and .u8 b 207))) (by simp only [execOp, Act.eval, List.map_toArray, List.map_cons, List.map_nil]; rw [e1, e2]; kernel_rfl) ⟨0, rfl, hW⟩
  case p4 =>
    intro D bq a' w' hk hc he hl hW
    (try dsimp only at hW)
    have e3 : a'.tmps.getD 10 undef = .int .u8 (bits .and .u8 (p) (bits .and .u8 b 207)) := (hl 10).trans (vsx_at (f := fun _ => .int .u8 (bits .and .u8 (p) (bits .and .u8 b 207))) rfl (he ⟨3, .data⟩ (by simp) rfl) rfl)
    exact wp_val (.bool ((bits .and .u8 (p) (bits .and .u8 b 207)) != 0)) (by simp only [execOp, Act.eval, List.map_toArray, List.map_cons, List.map_nil]; rw [e3]; kernel_rfl) ⟨0, rfl, hW⟩
  case p5 =>
    intro D bq a' w' hk hc he hl hW
    (try dsimp only at hW)
    have e4 : a'.tmps.getD 11 undef = .bool ((bits .and .u8 (p) (bits .and .u8 b 207)) != 0) := (hl 11).trans (vsx_at (f := fun _ => .bool ((bits .and .u8 (p) (bits .and .u8 b 207)) != 0)) rfl (he ⟨4, .data⟩ (by simp) rfl) rfl)
    refine wp_callp (vals := #[.bool ((bits .and .u8 (p) (bits .and .u8 b 207)) != 0)]) rfl rfl (by simp only [List.map_toArray, List.map_cons, List.map_nil, Act.eval, e4]) (by kernel_rfl) (aone_ct ((bits .and .u8 (p) (bits .and .u8 b 207)) != 0) w') ?_
    rintro e w2 ⟨rfl, hB⟩
    exact ⟨_, rfl, 0, rfl, Mem.next hW hB⟩
  case p6 =>
    intro D bq a' w' hk hc he hl hW
    (try dsimp only at hW)
    have f2 : a'.tmps.getD 2 undef = .pointer (some ⟨R1, 0, none⟩) := (hl 2).trans ((vsx_no rfl).trans rfl)
    exact wp_val (.pointer (some ⟨R1, 1, none⟩)) (by simp only [execOp, Act.eval, List.map_toArray, List.map_cons, List.map_nil]; rw [f2]; kernel_rfl) ⟨0, rfl, hW⟩
  case p7 =>
    intro D bq a' w' hk hc he hl hW
    (try dsimp only at hW)
    have e6 : a'.tmps.getD 13 undef = .pointer (some ⟨R1, 1, none⟩) := (hl 13).trans (vsx_at (f := fun _ => .pointer (some ⟨R1, 1, none⟩)) rfl (he ⟨6, .data⟩ (by simp) rfl) rfl)
    exact wp_sload1 _ _ rfl _ _ e6 1 hW _ (.int .u8 (s)) rfl rfl (by decide +kernel) ⟨0, rfl, hW⟩
  case p8 =>
    intro D bq a' w' hk hc he hl hW
    (try dsimp only at hW)
    have f1 : a'.tmps.getD 1 undef = .int .u8 (bits .and .u8 b 207) := (hl 1).trans ((vsx_no rfl).trans rfl)
    exact wp_val (.int .u8 (bits .and .u8 b 207)) (by simp only [execOp, Act.eval, List.map_toArray, List.map_cons, List.map_nil]; rw [f1]; kernel_rfl) ⟨0, rfl, hW⟩
  case p9 =>
    intro D bq a' w' hk hc he hl hW
    (try dsimp only at hW)
    have e7 : a'.tmps.getD 14 undef = .int .u8 (s) := (hl 14).trans (vsx_at (f := fun _ => .int .u8 (s)) rfl (he ⟨7, .data⟩ (by simp) rfl) rfl)
    have e8 : a'.tmps.getD 15 undef = .int .u8 (bits .and .u8 b 207) := (hl 15).trans (vsx_at (f := fun _ => .int .u8 (bits .and .u8 b 207)) rfl (he ⟨8, .data⟩ (by simp) rfl) rfl)
    exact wp_val (.int .u8 (bits .and .u8 (s) (bits .and .u8 b 207))) (by simp only [execOp, Act.eval, List.map_toArray, List.map_cons, List.map_nil]; rw [e7, e8]; kernel_rfl) ⟨0, rfl, hW⟩
  case p10 =>
    intro D bq a' w' hk hc he hl hW
    (try dsimp only at hW)
    have e9 : a'.tmps.getD 16 undef = .int .u8 (bits .and .u8 (s) (bits .and .u8 b 207)) := (hl 16).trans (vsx_at (f := fun _ => .int .u8 (bits .and .u8 (s) (bits .and .u8 b 207))) rfl (he ⟨9, .data⟩ (by simp) rfl) rfl)
    exact wp_val (.bool ((bits .and .u8 (s) (bits .and .u8 b 207)) != 0)) (by simp only [execOp, Act.eval, List.map_toArray, List.map_cons, List.map_nil]; rw [e9]; kernel_rfl) ⟨0, rfl, hW⟩
  case p11 =>
    intro D bq a' w' hk hc he hl hW
    (try dsimp only at hW)
    have e5 : a'.tmps.getD 12 undef = .int .u8 (oneI ((bits .and .u8 (p) (bits .and .u8 b 207)) != 0)) := (hl 12).trans (vsx_at (f := fun _ => .int .u8 (oneI ((bits .and .u8 (p) (bits .and .u8 b 207)) != 0))) rfl (he ⟨5, .data⟩ (by simp) rfl) rfl)
    have e10 : a'.tmps.getD 17 undef = .bool ((bits .and .u8 (s) (bits .and .u8 b 207)) != 0) := (hl 17).trans (vsx_at (f := fun _ => .bool ((bits .and .u8 (s) (bits .and .u8 b 207)) != 0)) rfl (he ⟨10, .data⟩ (by simp) rfl) rfl)
    exact wp_val (.agg #[.int .u8 (oneI ((bits .and .u8 (p) (bits .and .u8 b 207)) != 0)), .bool ((bits .and .u8 (s) (bits .and .u8 b 207)) != 0)]) (by simp only [execOp, Act.eval, List.map_toArray, List.map_cons, List.map_nil]; rw [e5, e10]; kernel_rfl) ⟨0, rfl, hW⟩
  case p12 =>
    intro D bq a' w' hk hc he hl hW
    (try dsimp only at hW)
    have f4 : a'.tmps.getD 4 undef = .pointer (some ⟨R2, 0, none⟩) := (hl 4).trans ((vsx_no rfl).trans rfl)
    have e11 : a'.tmps.getD 18 undef = .agg #[.int .u8 (oneI ((bits .and .u8 (p) (bits .and .u8 b 207)) != 0)), .bool ((bits .and .u8 (s) (bits .and .u8 b 207)) != 0)] := (hl 18).trans (vsx_at (f := fun _ => .agg #[.int .u8 (oneI ((bits .and .u8 (p) (bits .and .u8 b 207)) != 0)), .bool ((bits .and .u8 (s) (bits .and .u8 b 207)) != 0)]) rfl (he ⟨11, .data⟩ (by simp) rfl) rfl)
    have hM := hW
    simp only [hk, cond_false] at hM
    exact wp_sstoreA _ _ _ rfl rfl R2 f4 0 hM #[.int .u8 (0), .bool (false)] #[.int .u8 (oneI ((bits .and .u8 (p) (bits .and .u8 b 207)) != 0)), .bool ((bits .and .u8 (s) (bits .and .u8 b 207)) != 0)] rfl e11 (by kernel_rfl) (by rfl) (by kernel_rfl) fun w1 hM1 => ⟨0, rfl, hM1⟩
  intro D bq w' hD hW
  (try dsimp only at hW)
  simp only [hD 12 (by decide), cond_true] at hW
  clear H hD
  have H := hW
  clear hW
  simp only [putAll, vsOf, Nat.reduceAdd, List.foldl_cons, List.foldl_nil, Act.put, List.setIfInBounds_toArray, List.set_cons_succ, List.set_cons_zero]
  go_wp2_with (first | go_skip)
  refine ret_mem1 rfl _ rfl 0 H _ rfl (by kernel_rfl) (by kernel_rfl) rfl ?_
  exact ⟨rfl, H.toBelow⟩
set_option maxHeartbeats 2000000 in
theorem anz_ct (p s v : Int) (x : Bool) (w : World) (p0 : 0 ≤ p) (p1 : p < 256) (s0 : 0 ≤ s) (s1 : s < 256) (v0 : 0 ≤ v) (v1 : v < 256) :
    Calls Tryz.prog 220 #[.agg #[.int .u8 p, .int .u8 s], .agg #[.int .u8 v, .bool x]] w fun e w' => e = .returned (.agg #[.int .u8 (nzP p v), .int .u8 (nzS s x)]) ∧ Below w.heap.size w w' := by
  unfold nzP nzS
  rw [← put_clr p 128 _ p0 p1, ← put_clr s 128 x s0 s1]
  have HZF := Lib.hid alloc_fl
  have HZB := Lib.hid alloc_by
  have H := Mem.start w
  have M1 : True := trivial
  have M2 : True := trivial
  have M3 : True := trivial
  have M4 : True := trivial
  go_enter Tryz.func220, Tryz.ntmps220
  go_wp2_with (first | (go_at_call 217; (with_reducible refine (over_ct (p) (s) _ (by first | assumption | decide | omega) (by first | assumption | decide | omega) (by first | assumption | decide | omega) (by first | assumption | decide | omega)).mono ?_); first | (clear M4; rintro e w2 ⟨R4, T0, rfl, hR0, hB, hO⟩; replace H := H.add hB hR0 hO; clear hB hR0 hO)) | (go_at_call 234; (with_reducible refine (bit_ct v 7 x _ v0 v1).mono ?_); rintro e w2 ⟨rfl, hB⟩; replace H := H.next hB; clear hB) | (go_at_call 238; obtain ⟨T0, hT⟩ := H.get (i := 0) rfl; (with_reducible refine (aput_ct (clr p) (clr s) (128) (bitV v 7) (decide (128 ≤ v)) (x) (top_bit v0 v1) _ _ _ (by first | assumption | exact (clr_le _ (by assumption) (by assumption)).1 | decide | omega) (by first | assumption | exact (clr_le _ (by assumption) (by assumption)).2 | decide | omega) (by first | assumption | exact (clr_le _ (by assumption) (by assumption)).1 | decide | omega) (by first | assumption | exact (clr_le _ (by assumption) (by assumption)).2 | decide | omega) (by first | assumption | decide | omega) (by first | assumption | decide | omega) (by first | assumption | exact clr_clr _ | exact clr_put _ _ _ | exact clr_nzP _ _ | exact clr_nzS _ _ | decide) (by first | assumption | exact clr_clr _ | exact clr_put _ _ _ | exact clr_nzP _ _ | exact clr_nzS _ _ | decide) hT).mono ?_); rintro e w2 ⟨rfl, hm⟩; replace H := H.call (i := 0) rfl hm; clear hm hT; simp only [List.set_cons_zero, List.set_cons_succ] at H) | (refine wpList_mboxA rfl _ _ rfl H _ rfl ?_; clear H; (first | (clear M1; intro R1 w1 _ H) | (clear M2; intro R2 w1 _ H) | (clear M3; intro R3 w1 _ H) | (clear M4; intro R4 w1 _ H))) | go_skip | (refine gate_load _ _ rfl ?_; first | (refine wpList_mloadA rfl _ _ rfl _ rfl 2 H _ rfl (by decide +kernel) (by kernel_rfl) ?_)) | (refine wpList_mnew rfl _ rfl H _ HZF.out ?_; clear H; (first | (clear M1; intro R1 w1 _ H) | (clear M2; intro R2 w1 _ H) | (clear M3; intro R3 w1 _ H) | (clear M4; intro R4 w1 _ H))) | fail)
  (try simp only [Act.put, List.setIfInBounds_toArray, List.set_cons_succ, List.set_cons_zero])
  replace H : Mem w.heap.size [] w _ [(R4, #[.int .u8 (pbV (clr p) 128 (decide (128 ≤ v))), .int .u8 (pbV (clr s) 128 x)]), (R3, #[.int .u8 (0), .int .u8 (0)]), (R2, #[.int .u8 (v), .bool (x)]), (R1, #[.int .u8 (p), .int .u8 (s)])] := H
  refine wp_region_x (by kernel_rfl) (by kernel_rfl) [(some 12, fun _ => .func (.func 238) #[] #[.pointer (some ⟨R4, 0, none⟩)]), (some 13, fun _ => .pointer (some ⟨R2, 0, none⟩)), (some 14, fun _ => .int .u8 (v)), (some 15, fun _ => .bool (decide ((v) = 0))), (some 16, fun _ => .int .u8 (oneI (decide ((v) = 0)))), (some 17, fun _ => .agg #[.int .u8 (v), .bool (x)]), (some 18, fun R => .slice (some ⟨R, 0, none⟩) 1 1), (some 19, fun _ => .agg #[.int .u8 (oneI (decide ((v) = 0))), .bool ((x))]), (some 20, fun _ => .agg #[.int .u8 (pbV (pbV (clr p) 128 (decide (128 ≤ v))) (2) (decide (v = 0))), .int .u8 (pbV (pbV (clr s) 128 x) (2) ((x)))]), (none, fun _ => undef)] (fun D bq w => Mem _ _ _ w (cond (D 6) ((bq 6, #[.int .u8 (v), .bool (x)]) :: [(R4, cond (D 8) #[.int .u8 (pbV (pbV (clr p) 128 (decide (128 ≤ v))) (2) (decide (v = 0))), .int .u8 (pbV (pbV (clr s) 128 x) (2) ((x)))] (#[.int .u8 (pbV (clr p) 128 (decide (128 ≤ v))), .int .u8 (pbV (clr s) 128 x)])), (R3, cond (D 9) #[.int .u8 (pbV (pbV (clr p) 128 (decide (128 ≤ v))) (2) (decide (v = 0))), .int .u8 (pbV (pbV (clr s) 128 x) (2) ((x)))] (#[.int .u8 (0), .int .u8 (0)])), (R2, #[.int .u8 (v), .bool (x)]), (R1, #[.int .u8 (p), .int .u8 (s)])]) [(R4, cond (D 8) #[.int .u8 (pbV (pbV (clr p) 128 (decide (128 ≤ v))) (2) (decide (v = 0))), .int .u8 (pbV (pbV (clr s) 128 x) (2) ((x)))] (#[.int .u8 (pbV (clr p) 128 (decide (128 ≤ v))), .int .u8 (pbV (clr s) 128 x)])), (R3, cond (D 9) #[.int .u8 (pbV (pbV (clr p) 128 (decide (128 ≤ v))) (2) (decide (v = 0))), .int .u8 (pbV (pbV (clr s) 128 x) (2) ((x)))] (#[.int .u8 (0), .int .u8 (0)])), (R2, #[.int .u8 (v), .bool (x)]), (R1, #[.int .u8 (p), .int .u8 (s)])])) 21 (by rfl) (by rfl) (by rfl) H.drew ⟨⟨rfl, ?p0⟩, ⟨rfl, ?p1⟩, ⟨rfl, ?p2⟩, ⟨rfl, ?p3⟩, ⟨rfl, ?p4⟩, ⟨rfl, ?p5⟩, ⟨rfl, ?p6⟩, ⟨rfl, ?p7⟩, ⟨rfl, ?p8⟩, ⟨rfl, ?p9⟩, trivial⟩ ?_
  case p0 =>
    intro D bq a' w' hk hc he hl hW
    (try dsimp only at hW)
    have f5 : a'.tmps.getD 5 undef = .func (.func 238) #[] #[.pointer (some ⟨R4, 0, none⟩)] := (hl 5).trans ((vsx_no rfl).trans rfl)
    exact wp_val (.func (.func 238) #[] #[.pointer (some ⟨R4, 0, none⟩)]) (by simp only [execOp, Act.eval, List.map_toArray, List.map_cons, List.map_nil]; rw [f5]; kernel_rfl) ⟨0, rfl, hW⟩
  case p1 =>
    intro D bq a' w' hk hc he hl hW
    (try dsimp only at hW)
    have f3 : a'.tmps.getD 3 undef = .pointer (some ⟨R2, 0, none⟩) := (hl 3).trans ((vsx_no rfl).trans rfl)
    exact wp_val (.pointer (some ⟨R2, 0, none⟩)) (by simp only [execOp, Act.eval, List.map_toArray, List.map_cons, List.map_nil]; rw [f3]; kernel_rfl) ⟨0, rfl, hW⟩
  case p2 =>
    intro D bq a' w' hk hc he hl hW
    (try dsimp only at hW)
    have e1 : a'.tmps.getD 13 undef = .pointer (some ⟨R2, 0, none⟩) := (hl 13).trans (vsx_at (f := fun _ => .pointer (some ⟨R2, 0, none⟩)) rfl (he ⟨1, .data⟩ (by simp) rfl) rfl)
    exact wp_sload1 _ _ rfl _ _ e1 2 (Mem.condB hW) _ (.int .u8 (v)) rfl rfl (by decide +kernel) ⟨0, rfl, hW⟩
  case p3 =>
    intro D bq a' w' hk hc he hl hW
    (try dsimp only at hW)
    have e2 : a'.tmps.getD 14 undef = .int .u8 (v) := (hl 14).trans (vsx_at (f := fun _ => .int .u8 (v)) rfl (he ⟨2, .data⟩ (by simp) rfl) rfl)
    exact wp_val (.bool (decide ((v) = 0))) (by simp only [execOp, Act.eval, List.map_toArray, List.map_cons, List.map_nil]; rw [e2]; kernel_rfl) ⟨0, rfl, hW⟩
  case p4 =>
    intro D bq a' w' hk hc he hl hW
    (try dsimp only at hW)
    have e3 : a'.tmps.getD 15 undef = .bool (decide ((v) = 0)) := (hl 15).trans (vsx_at (f := fun _ => .bool (decide ((v) = 0))) rfl (he ⟨3, .data⟩ (by simp) rfl) rfl)
    refine wp_callp (vals := #[.bool (decide ((v) = 0))]) rfl rfl (by simp only [List.map_toArray, List.map_cons, List.map_nil, Act.eval, e3]) (by kernel_rfl) (aone_ct (decide ((v) = 0)) w') ?_
    rintro e w2 ⟨rfl, hB⟩
    exact ⟨_, rfl, 0, rfl, Mem.next hW hB⟩
  case p5 =>
    intro D bq a' w' hk hc he hl hW
    (try dsimp only at hW)
    have f3 : a'.tmps.getD 3 undef = .pointer (some ⟨R2, 0, none⟩) := (hl 3).trans ((vsx_no rfl).trans rfl)
    exact wp_sloadA _ _ rfl _ f3 2 (Mem.condB hW) #[.int .u8 (v), .bool (x)] rfl (by kernel_rfl) (by kernel_rfl) ⟨0, rfl, hW⟩
  case p6 =>
    intro D bq a' w' hk hc he hl hW
    (try dsimp only at hW)
    have e5 : a'.tmps.getD 17 undef = .agg #[.int .u8 (v), .bool (x)] := (hl 17).trans (vsx_at (f := fun _ => .agg #[.int .u8 (v), .bool (x)]) rfl (he ⟨5, .data⟩ (by simp) rfl) rfl)
    have hM := Mem.ofF hk hW
    have hA := fun T => Mem.new hM #[.int .u8 (v), .bool (x)] T
    exact wp_row _ _ _ rfl _ (by simp only [List.map_toArray, List.map_cons, List.map_nil, Act.eval, e5]) _ _ (build_by1 (v) (x)) ⟨_, rfl, hA _⟩
  case p7 =>
    intro D bq a' w' hk hc he hl hW
    (try dsimp only at hW)
    have e4 : a'.tmps.getD 16 undef = .int .u8 (oneI (decide ((v) = 0))) := (hl 16).trans (vsx_at (f := fun _ => .int .u8 (oneI (decide ((v) = 0)))) rfl (he ⟨4, .data⟩ (by simp) rfl) rfl)
    have e6 : a'.tmps.getD 18 undef = .slice (some ⟨bq 6, 0, none⟩) 1 1 := (hl 18).trans (vsx_at (f := fun R => .slice (some ⟨R, 0, none⟩) 1 1) rfl (he ⟨6, .data⟩ (by simp) rfl) rfl)
    have hR := Mem.ofT (he ⟨6, .data⟩ (by simp) rfl) hW
    refine wp_callp (vals := #[.int .u8 (oneI (decide ((v) = 0))), .slice (some ⟨bq 6, 0, none⟩) 1 1]) rfl rfl (by simp only [List.map_toArray, List.map_cons, List.map_nil, Act.eval, e4, e6]) (by kernel_rfl) (of1_ct (oneI (decide ((v) = 0))) (v) (x) hR 0 rfl) ?_
    rintro e w2 ⟨rfl, hB⟩
    exact ⟨_, rfl, 0, rfl, Mem.next hW hB⟩
  case p8 =>
    intro D bq a' w' hk hc he hl hW
    (try dsimp only at hW)
    have e7 : a'.tmps.getD 19 undef = .agg #[.int .u8 (oneI (decide ((v) = 0))), .bool ((x))] := (hl 19).trans (vsx_at (f := fun _ => .agg #[.int .u8 (oneI (decide ((v) = 0))), .bool ((x))]) rfl (he ⟨7, .data⟩ (by simp) rfl) rfl)
    have e0 : a'.tmps.getD 12 undef = .func (.func 238) #[] #[.pointer (some ⟨R4, 0, none⟩)] := (hl 12).trans (vsx_at (f := fun _ => .func (.func 238) #[] #[.pointer (some ⟨R4, 0, none⟩)]) rfl (he ⟨0, .data⟩ (by simp) rfl) rfl)
    have hM := hW
    simp only [hk, cond_false, cond_true] at hM
    obtain ⟨T, hT⟩ := Mem.get (Mem.condB hM) (i := 0) rfl
    refine wp_callc (caps := #[.pointer (some ⟨R4, 0, none⟩)]) (vals := #[.int .u8 (2), .agg #[.int .u8 (oneI (decide ((v) = 0))), .bool ((x))]]) rfl rfl (e0) (by simp only [List.map_toArray, List.map_cons, List.map_nil, Act.eval, e7]) (by kernel_rfl) (by simp only [List.append_toArray, List.cons_append, List.nil_append]) (aput_ct (pbV (clr p) 128 (decide (128 ≤ v))) (pbV (clr s) 128 x) (2) (oneI (decide ((v) = 0))) (decide (v = 0)) ((x)) (oneI_ne _) _ T w' (by first | assumption | exact (pbV_le _ _ _).1 | decide | omega) (by first | assumption | exact (pbV_le _ _ _).2 | decide | omega) (by first | assumption | exact (pbV_le _ _ _).1 | decide | omega) (by first | assumption | exact (pbV_le _ _ _).2 | decide | omega) (by first | assumption | decide | omega) (by first | assumption | decide | omega) (by first | assumption | exact clr_clr _ | exact clr_put _ _ _ | exact clr_nzP _ _ | exact clr_nzS _ _ | decide) (by first | assumption | exact clr_clr _ | exact clr_put _ _ _ | exact clr_nzP _ _ | exact clr_nzS _ _ | decide) hT) ?_
    rintro e w2 ⟨rfl, hm⟩
    exact ⟨_, rfl, 0, rfl, Mem.callC hM (i := 0) rfl hm⟩
  case p9 =>
    intro D bq a' w' hk hc he hl hW
    (try dsimp only at hW)
    have f4 : a'.tmps.getD 4 undef = .pointer (some ⟨R3, 0, none⟩) := (hl 4).trans ((vsx_no rfl).trans rfl)
    have e8 : a'.tmps.getD 20 undef = .agg #[.int .u8 (pbV (pbV (clr p) 128 (decide (128 ≤ v))) (2) (decide (v = 0))), .int .u8 (pbV (pbV (clr s) 128 x) (2) ((x)))] := (hl 20).trans (vsx_at (f := fun _ => .agg #[.int .u8 (pbV (pbV (clr p) 128 (decide (128 ≤ v))) (2) (decide (v = 0))), .int .u8 (pbV (pbV (clr s) 128 x) (2) ((x)))]) rfl (he ⟨8, .data⟩ (by simp) rfl) rfl)
    have hM := hW
    simp only [hk, cond_false] at hM
    exact wp_sstoreAC _ _ _ rfl rfl R3 f4 1 hM #[.int .u8 (0), .int .u8 (0)] #[.int .u8 (pbV (pbV (clr p) 128 (decide (128 ≤ v))) (2) (decide (v = 0))), .int .u8 (pbV (pbV (clr s) 128 x) (2) ((x)))] rfl e8 (by kernel_rfl) (by rfl) (by kernel_rfl) fun w1 hM1 => ⟨0, rfl, hM1⟩
  intro D bq w' hD hW
  (try dsimp only at hW)
  simp only [hD 6 (by decide), hD 8 (by decide), hD 9 (by decide), cond_true] at hW
  clear H hD
  have H := hW
  clear hW
  simp only [putAll, vsOf, Nat.reduceAdd, List.foldl_cons, List.foldl_nil, Act.put, List.setIfInBounds_toArray, List.set_cons_succ, List.set_cons_zero]
  (try generalize bq 6 = q6 at *)
  go_wp2_with (first | go_skip)
  refine ret_mem1 rfl _ rfl 2 H _ rfl (by kernel_rfl) (by kernel_rfl) rfl ?_
  exact ⟨rfl, H.toBelow⟩
set_option maxHeartbeats 2000000 in
theorem apush_ct (p s : Int) (k : Bool) (w : World) (p0 : 0 ≤ p) (p1 : p < 256) (s0 : 0 ≤ s) (s1 : s < 256) :
    Calls Tryz.prog 176 #[.agg #[.int .u8 p, .int .u8 s], .bool k] w fun e w' => e = .returned (.agg #[.int .u8 (pushV p k), .bool (hasV s 207)]) ∧ Below w.heap.size w w' := by
  have hv : pushV p k = _ := (push_v p k p0 p1).symm
  rw [hv]
  clear hv
  cases k
  all_goals
    have HZF := Lib.hid alloc_fl
    have HZB := Lib.hid alloc_by
    have H := Mem.start w
    have M1 : True := trivial
    have M2 : True := trivial
    have M3 : True := trivial
    simp only [Bool.false_eq_true, if_false, if_true]
    go_enter Tryz.func176, Tryz.ntmps176
    go_wp2_with (first | (go_at_call 51; (with_reducible refine (acheck_ct p s _ p0 p1 s0 s1).mono ?_); rintro e w2 ⟨rfl, hB⟩; replace H := H.next hB; clear hB) | (refine wpList_mfield rfl _ _ _ rfl _ _ rfl (field_fl _ _) ?_) | (go_at_call 85; (with_reducible refine (aget_ct p s 207 _ p0 p1 s0 s1 (by decide) (by decide)).mono ?_); rintro e w2 ⟨rfl, hB⟩; replace H := H.next hB; clear hB) | (refine wpList_mrow rfl _ _ _ rfl H _ (by simp only [List.map_toArray, List.map_cons, List.map_nil, Act.eval]; rfl) _ _ (build_by1 (oneI (hasV p 207)) (hasV s 207)) ?_; clear H; (first | (clear M1; intro R1 w1 H) | (clear M2; intro R2 w1 H) | (clear M3; intro R3 w1 H))) | (go_at_call 218; (with_reducible refine (of1_ct _ (oneI (hasV p 207)) (hasV s 207) H 0 rfl).mono ?_); rintro e w2 ⟨rfl, hB⟩; replace H := H.next hB; clear hB) | (refine wpList_mboxA rfl _ _ rfl H _ rfl ?_; clear H; (first | (clear M1; intro R1 w1 _ H) | (clear M2; intro R2 w1 _ H) | (clear M3; intro R3 w1 _ H))) | go_skip | (refine gate_load _ _ rfl ?_; first | (refine wpList_mloadA rfl _ _ rfl _ rfl 1 H _ rfl (by decide +kernel) (by kernel_rfl) ?_)) | (refine gate_store _ _ _ rfl ?_; (first | (refine wpList_mstoreA rfl _ _ _ rfl rfl _ rfl 1 H _ _ rfl rfl (by kernel_rfl) (by kernel_rfl) (by kernel_rfl) ?_)); clear H; intro w1 H; simp only [List.set_cons_zero, List.set_cons_succ] at H) | (refine wpList_mnew rfl _ rfl H _ HZB.out ?_; clear H; (first | (clear M1; intro R1 w1 _ H) | (clear M2; intro R2 w1 _ H) | (clear M3; intro R3 w1 _ H))) | fail)
    refine ret_mem1 rfl _ rfl 1 H _ rfl (by kernel_rfl) (by kernel_rfl) rfl ?_
    exact ⟨rfl, H.toBelow⟩
set_option maxHeartbeats 2000000 in
theorem apull_ct (v : Int) (x : Bool) (w : World) (v0 : 0 ≤ v) (v1 : v < 256) :
    Calls Tryz.prog 175 #[.agg #[.int .u8 v, .bool x]] w fun e w' => e = .returned (.agg #[.int .u8 (clr v), .int .u8 (pullS x)]) ∧ Below w.heap.size w w' := by
  rw [← pull_p v v0 v1, show pullS x = pbV (pbV 0 207 x) v x from (pull_s v x v0 v1).symm]
  have c0 : clr 0 = 0 := by decide
  have r0 : (0 : Int) ≤ 0 := by decide
  have r1 : (0 : Int) < 256 := by decide
  have HZF := Lib.hid alloc_fl
  have HZB := Lib.hid alloc_by
  have H := Mem.start w
  have M1 : True := trivial
  have M2 : True := trivial
  have M3 : True := trivial
  have M4 : True := trivial
  go_enter Tryz.func175, Tryz.ntmps175
  go_wp2_with (first | (go_at_call 217; (with_reducible refine (over_ct (0) (0) _ (by first | assumption | decide | omega) (by first | assumption | decide | omega) (by first | assumption | decide | omega) (by first | assumption | decide | omega)).mono ?_); first | (clear M3; rintro e w2 ⟨R3, T0, rfl, hR0, hB, hO⟩; replace H := H.add hB hR0 hO; clear hB hR0 hO)) | (refine wpList_mrow rfl _ _ _ rfl H _ (by simp only [List.map_toArray, List.map_cons, List.map_nil, Act.eval]; rfl) _ _ (build_by1 v x) ?_; clear H; (first | (clear M1; intro R1 w1 H) | (clear M2; intro R2 w1 H) | (clear M3; intro R3 w1 H) | (clear M4; intro R4 w1 H))) | (go_at_call 218; (with_reducible refine (of1_ct _ v x H 0 rfl).mono ?_); rintro e w2 ⟨rfl, hB⟩; replace H := H.next hB; clear hB) | (go_at_call 238; obtain ⟨T0, hT⟩ := H.get (i := 1) rfl; (with_reducible refine (aput_ct (clr 0) (clr 0) (207) (0) (false) (x) (rfl) _ _ _ (by first | assumption | exact (clr_le _ (by assumption) (by assumption)).1 | decide | omega) (by first | assumption | exact (clr_le _ (by assumption) (by assumption)).2 | decide | omega) (by first | assumption | exact (clr_le _ (by assumption) (by assumption)).1 | decide | omega) (by first | assumption | exact (clr_le _ (by assumption) (by assumption)).2 | decide | omega) (by first | assumption | decide | omega) (by first | assumption | decide | omega) (by first | assumption | exact clr_clr _ | exact clr_put _ _ _ | exact clr_nzP _ _ | exact clr_nzS _ _ | decide) (by first | assumption | exact clr_clr _ | exact clr_put _ _ _ | exact clr_nzP _ _ | exact clr_nzS _ _ | decide) hT).mono ?_); rintro e w2 ⟨rfl, hm⟩; replace H := H.call (i := 1) rfl hm; clear hm hT; simp only [List.set_cons_zero, List.set_cons_succ] at H) | (refine wpList_mboxA rfl _ _ rfl H _ rfl ?_; clear H; (first | (clear M1; intro R1 w1 _ H) | (clear M2; intro R2 w1 _ H) | (clear M3; intro R3 w1 _ H) | (clear M4; intro R4 w1 _ H))) | go_skip | (refine gate_load _ _ rfl ?_; first | (refine wpList_mloadA rfl _ _ rfl _ rfl 2 H _ rfl (by decide +kernel) (by kernel_rfl) ?_)) | (refine wpList_mnew rfl _ rfl H _ HZF.out ?_; clear H; (first | (clear M1; intro R1 w1 _ H) | (clear M2; intro R2 w1 _ H) | (clear M3; intro R3 w1 _ H) | (clear M4; intro R4 w1 _ H))) | fail)
  (try simp only [Act.put, List.setIfInBounds_toArray, List.set_cons_succ, List.set_cons_zero])
  replace H : Mem w.heap.size [] w _ [(R4, #[.int .u8 (v), .bool (x)]), (R3, #[.int .u8 (pbV (clr 0) 207 false), .int .u8 (pbV (clr 0) 207 x)]), (R2, #[.int .u8 (0), .int .u8 (0)]), (R1, #[.int .u8 (v), .bool (x)])] := H
  refine wp_region_x (by kernel_rfl) (by kernel_rfl) [(some 11, fun _ => .func (.func 238) #[] #[.pointer (some ⟨R3, 0, none⟩)]), (some 12, fun _ => .pointer (some ⟨R1, 0, none⟩)), (some 13, fun _ => .int .u8 (v)), (some 14, fun _ => .agg #[.int .u8 (v), .bool (x)]), (some 15, fun R => .slice (some ⟨R, 0, none⟩) 1 1), (some 16, fun _ => .agg #[.int .u8 (1), .bool ((x))]), (some 17, fun _ => .agg #[.int .u8 (pbV (pbV (clr 0) 207 false) (v) (true)), .int .u8 (pbV (pbV (clr 0) 207 x) (v) ((x)))]), (none, fun _ => undef)] (fun D bq w => Mem _ _ _ w (cond (D 4) ((bq 4, #[.int .u8 (v), .bool (x)]) :: [(R4, #[.int .u8 (v), .bool (x)]), (R3, cond (D 6) #[.int .u8 (pbV (pbV (clr 0) 207 false) (v) (true)), .int .u8 (pbV (pbV (clr 0) 207 x) (v) ((x)))] (#[.int .u8 (pbV (clr 0) 207 false), .int .u8 (pbV (clr 0) 207 x)])), (R2, cond (D 7) #[.int .u8 (pbV (pbV (clr 0) 207 false) (v) (true)), .int .u8 (pbV (pbV (clr 0) 207 x) (v) ((x)))] (#[.int .u8 (0), .int .u8 (0)])), (R1, #[.int .u8 (v), .bool (x)])]) [(R4, #[.int .u8 (v), .bool (x)]), (R3, cond (D 6) #[.int .u8 (pbV (pbV (clr 0) 207 false) (v) (true)), .int .u8 (pbV (pbV (clr 0) 207 x) (v) ((x)))] (#[.int .u8 (pbV (clr 0) 207 false), .int .u8 (pbV (clr 0) 207 x)])), (R2, cond (D 7) #[.int .u8 (pbV (pbV (clr 0) 207 false) (v) (true)), .int .u8 (pbV (pbV (clr 0) 207 x) (v) ((x)))] (#[.int .u8 (0), .int .u8 (0)])), (R1, #[.int .u8 (v), .bool (x)])])) 18 (by rfl) (by rfl) (by rfl) H.drew ⟨⟨rfl, ?p0⟩, ⟨rfl, ?p1⟩, ⟨rfl, ?p2⟩, ⟨rfl, ?p3⟩, ⟨rfl, ?p4⟩, ⟨rfl, ?p5⟩, ⟨rfl, ?p6⟩, ⟨rfl, ?p7⟩, trivial⟩ ?_
  case p0 =>
    intro D bq a' w' hk hc he hl hW
    (try dsimp only at hW)
    have f3 : a'.tmps.getD 3 undef = .func (.func 238) #[] #[.pointer (some ⟨R3, 0, none⟩)] := (hl 3).trans ((vsx_no rfl).trans rfl)
    exact wp_val (.func (.func 238) #[] #[.pointer (some ⟨R3, 0, none⟩)]) (by simp only [execOp, Act.eval, List.map_toArray, List.map_cons, List.map_nil]; rw [f3]; kernel_rfl) ⟨0, rfl, hW⟩
  case p1 =>
    intro D bq a' w' hk hc he hl hW
    (try dsimp only at hW)
    have f1 : a'.tmps.getD 1 undef = .pointer (some ⟨R1, 0, none⟩) := (hl 1).trans ((vsx_no rfl).trans rfl)
    exact wp_val (.pointer (some ⟨R1, 0, none⟩)) (by simp only [execOp, Act.eval, List.map_toArray, List.map_cons, List.map_nil]; rw [f1]; kernel_rfl) ⟨0, rfl, hW⟩
  case p2 =>
    intro D bq a' w' hk hc he hl hW
    (try dsimp only at hW)
    have e1 : a'.tmps.getD 12 undef = .pointer (some ⟨R1, 0, none⟩) := (hl 12).trans (vsx_at (f := fun _ => .pointer (some ⟨R1, 0, none⟩)) rfl (he ⟨1, .data⟩ (by simp) rfl) rfl)
    exact wp_sload1 _ _ rfl _ _ e1 3 (Mem.condB hW) _ (.int .u8 (v)) rfl rfl (by decide +kernel) ⟨0, rfl, hW⟩
  case p3 =>
    intro D bq a' w' hk hc he hl hW
    (try dsimp only at hW)
    have f1 : a'.tmps.getD 1 undef = .pointer (some ⟨R1, 0, none⟩) := (hl 1).trans ((vsx_no rfl).trans rfl)
    exact wp_sloadA _ _ rfl _ f1 3 (Mem.condB hW) #[.int .u8 (v), .bool (x)] rfl (by kernel_rfl) (by kernel_rfl) ⟨0, rfl, hW⟩
  case p4 =>
    intro D bq a' w' hk hc he hl hW
    (try dsimp only at hW)
    have e3 : a'.tmps.getD 14 undef = .agg #[.int .u8 (v), .bool (x)] := (hl 14).trans (vsx_at (f := fun _ => .agg #[.int .u8 (v), .bool (x)]) rfl (he ⟨3, .data⟩ (by simp) rfl) rfl)
    have hM := Mem.ofF hk hW
    have hA := fun T => Mem.new hM #[.int .u8 (v), .bool (x)] T
    exact wp_row _ _ _ rfl _ (by simp only [List.map_toArray, List.map_cons, List.map_nil, Act.eval, e3]) _ _ (build_by1 (v) (x)) ⟨_, rfl, hA _⟩
  case p5 =>
    intro D bq a' w' hk hc he hl hW
    (try dsimp only at hW)
    have e4 : a'.tmps.getD 15 undef = .slice (some ⟨bq 4, 0, none⟩) 1 1 := (hl 15).trans (vsx_at (f := fun R => .slice (some ⟨R, 0, none⟩) 1 1) rfl (he ⟨4, .data⟩ (by simp) rfl) rfl)
    have hR := Mem.ofT (he ⟨4, .data⟩ (by simp) rfl) hW
    refine wp_callp (vals := #[.int .u8 (1), .slice (some ⟨bq 4, 0, none⟩) 1 1]) rfl rfl (by simp only [List.map_toArray, List.map_cons, List.map_nil, Act.eval, e4]) (by kernel_rfl) (of1_ct (1) (v) (x) hR 0 rfl) ?_
    rintro e w2 ⟨rfl, hB⟩
    exact ⟨_, rfl, 0, rfl, Mem.next hW hB⟩
  case p6 =>
    intro D bq a' w' hk hc he hl hW
    (try dsimp only at hW)
    have e2 : a'.tmps.getD 13 undef = .int .u8 (v) := (hl 13).trans (vsx_at (f := fun _ => .int .u8 (v)) rfl (he ⟨2, .data⟩ (by simp) rfl) rfl)
    have e5 : a'.tmps.getD 16 undef = .agg #[.int .u8 (1), .bool ((x))] := (hl 16).trans (vsx_at (f := fun _ => .agg #[.int .u8 (1), .bool ((x))]) rfl (he ⟨5, .data⟩ (by simp) rfl) rfl)
    have e0 : a'.tmps.getD 11 undef = .func (.func 238) #[] #[.pointer (some ⟨R3, 0, none⟩)] := (hl 11).trans (vsx_at (f := fun _ => .func (.func 238) #[] #[.pointer (some ⟨R3, 0, none⟩)]) rfl (he ⟨0, .data⟩ (by simp) rfl) rfl)
    have hM := hW
    simp only [hk, cond_false, cond_true] at hM
    obtain ⟨T, hT⟩ := Mem.get (Mem.condB hM) (i := 1) rfl
    refine wp_callc (caps := #[.pointer (some ⟨R3, 0, none⟩)]) (vals := #[.int .u8 (v), .agg #[.int .u8 (1), .bool ((x))]]) rfl rfl (e0) (by simp only [List.map_toArray, List.map_cons, List.map_nil, Act.eval, e2, e5]) (by kernel_rfl) (by simp only [List.append_toArray, List.cons_append, List.nil_append]) (aput_ct (pbV (clr 0) 207 false) (pbV (clr 0) 207 x) (v) (1) (true) ((x)) (rfl) _ T w' (by first | assumption | decide | omega) (by first | assumption | decide | omega) (by first | assumption | exact (pbV_le _ _ _).1 | decide | omega) (by first | assumption | exact (pbV_le _ _ _).2 | decide | omega) (by first | assumption | decide | omega) (by first | assumption | decide | omega) (by first | assumption | exact clr_clr _ | exact clr_put _ _ _ | exact clr_nzP _ _ | exact clr_nzS _ _ | decide) (by first | assumption | exact clr_clr _ | exact clr_put _ _ _ | exact clr_nzP _ _ | exact clr_nzS _ _ | decide) hT) ?_
    rintro e w2 ⟨rfl, hm⟩
    exact ⟨_, rfl, 0, rfl, Mem.callC hM (i := 1) rfl hm⟩
  case p7 =>
    intro D bq a' w' hk hc he hl hW
    (try dsimp only at hW)
    have f2 : a'.tmps.getD 2 undef = .pointer (some ⟨R2, 0, none⟩) := (hl 2).trans ((vsx_no rfl).trans rfl)
    have e6 : a'.tmps.getD 17 undef = .agg #[.int .u8 (pbV (pbV (clr 0) 207 false) (v) (true)), .int .u8 (pbV (pbV (clr 0) 207 x) (v) ((x)))] := (hl 17).trans (vsx_at (f := fun _ => .agg #[.int .u8 (pbV (pbV (clr 0) 207 false) (v) (true)), .int .u8 (pbV (pbV (clr 0) 207 x) (v) ((x)))]) rfl (he ⟨6, .data⟩ (by simp) rfl) rfl)
    have hM := hW
    simp only [hk, cond_false] at hM
    exact wp_sstoreAC _ _ _ rfl rfl R2 f2 2 hM #[.int .u8 (0), .int .u8 (0)] #[.int .u8 (pbV (pbV (clr 0) 207 false) (v) (true)), .int .u8 (pbV (pbV (clr 0) 207 x) (v) ((x)))] rfl e6 (by kernel_rfl) (by rfl) (by kernel_rfl) fun w1 hM1 => ⟨0, rfl, hM1⟩
  intro D bq w' hD hW
  (try dsimp only at hW)
  simp only [hD 4 (by decide), hD 6 (by decide), hD 7 (by decide), cond_true] at hW
  clear H hD
  have H := hW
  clear hW
  simp only [putAll, vsOf, Nat.reduceAdd, List.foldl_cons, List.foldl_nil, Act.put, List.setIfInBounds_toArray, List.set_cons_succ, List.set_cons_zero]
  (try generalize bq 4 = q4 at *)
  go_wp2_with (first | go_skip)
  refine ret_mem1 rfl _ rfl 3 H _ rfl (by kernel_rfl) (by kernel_rfl) rfl ?_
  exact ⟨by rw [c0], H.toBelow⟩
end Go.Proofs.YtbonamhinnhlnaaGreatDoor
