/-
  Several texts in one: what is read and written by the functions on the way to the statements. Conditions stand in each theorem.
-/
import Derived.Test.YtbonamhinnhlnaaGreatDoorP15
namespace Go.Proofs.YtbonamhinnhlnaaGreatDoor
open Go.RowKit
set_option linter.unusedSimpArgs false
set_option linter.unusedVariables false
set_option maxRecDepth 20000

set_option maxHeartbeats 2000000 in
theorem jump_ct (s : Wk) (F : Fiw s) : CM 107 s (jumpW s) := by
  intro R T w hR
  obtain ⟨⟨a0, a1, x0, x1, y0, y1, s0, s1, p0, p1, q0, q1, cp, cq, pc0, pc1, op0, op1, ad0, ad1, d0, d1⟩, v0, v1⟩ := F
  clear cp cq
  have HZB := Lib.hid alloc_by
  have HZU := Lib.hid alloc_bus
  have H := Mem.begin hR
  clear hR
  go_enter Tryz.func107, Tryz.ntmps107
  go_wp2_with fail
  (try simp only [Act.put, List.setIfInBounds_toArray, List.set_cons_succ, List.set_cons_zero])
  refine wp_region_x (by kernel_rfl) (by kernel_rfl) [(some 3, fun _ => .pointer (some ⟨R, 0, none⟩)), (some 4, fun _ => .pointer (some ⟨R, 0, none⟩)), (some 5, fun _ => .pointer (some ⟨R, 0, none⟩)), (some 6, fun _ => .pointer (some ⟨R, 0, none⟩)), (some 7, fun _ => .pointer (some ⟨R, 0, none⟩)), (some 8, fun _ => .pointer (some ⟨R, 16, none⟩)), (some 9, fun _ => .agg #[.int .u8 ((s).dv), .bool ((s).db)]), (some 10, fun _ => .pointer (some ⟨R, 0, none⟩)), (some 11, fun _ => .pointer (some ⟨R, 0, none⟩)), (some 12, fun _ => .pointer (some ⟨R, 31, none⟩)), (some 13, fun _ => .agg #[.int .u8 ((s).v), .bool ((s).vb)]), (some 14, fun _ => .tuple #[.int .u16 (((s).dv) + 256 * ((s).v)), .bool (((s).db) || ((s).vb))]), (some 2, fun _ => .tuple #[.int .u16 (((s).dv) + 256 * ((s).v)), .bool (((s).db) || ((s).vb))]), (some 15, fun _ => .int .u16 (((s).dv) + 256 * ((s).v))), (some 16, fun _ => .bool (((s).db) || ((s).vb))), (some 17, fun _ => .pointer (some ⟨R, 0, none⟩)), (some 18, fun _ => .pointer (some ⟨R, 0, none⟩)), (some 19, fun _ => .pointer (some ⟨R, 10, none⟩)), (none, fun _ => undef), (some 20, fun _ => .pointer (some ⟨R, 0, none⟩)), (some 21, fun _ => .pointer (some ⟨R, 0, none⟩)), (some 22, fun _ => .pointer (some ⟨R, 11, none⟩)), (none, fun _ => undef)] (fun D bq w => Mem _ _ _ w ([(R, cond (D 22) (wkC (((s).uPC (((s).dv) + 256 * ((s).v))).uPCS (((s).db) || ((s).vb)))) (cond (D 18) (wkC ((s).uPC (((s).dv) + 256 * ((s).v)))) (wkC (s))))])) 23 (by rfl) (by rfl) (by rfl) H.drew ⟨⟨rfl, ?p0⟩, ⟨rfl, ?p1⟩, ⟨rfl, ?p2⟩, ⟨rfl, ?p3⟩, ⟨rfl, ?p4⟩, ⟨rfl, ?p5⟩, ⟨rfl, ?p6⟩, ⟨rfl, ?p7⟩, ⟨rfl, ?p8⟩, ⟨rfl, ?p9⟩, ⟨rfl, ?p10⟩, ⟨rfl, ?p11⟩, ⟨rfl, ?p12⟩, ⟨rfl, ?p13⟩, ⟨rfl, ?p14⟩, ⟨rfl, ?p15⟩, ⟨rfl, ?p16⟩, ⟨rfl, ?p17⟩, ⟨rfl, ?p18⟩, ⟨rfl, ?p19⟩, ⟨rfl, ?p20⟩, ⟨rfl, ?p21⟩, ⟨rfl, ?p22⟩, trivial⟩ ?_
  case p0 =>
    intro D bq a' w' hk hc he hl hW
    (try dsimp only at hW)
    have f0 : a'.tmps.getD 0 undef = .pointer (some ⟨R, 0, none⟩) := (hl 0).trans ((vsx_no rfl).trans rfl)
    exact wp_val (.pointer (some ⟨R, 0, none⟩)) (by simp only [execOp, Act.eval, List.map_toArray, List.map_cons, List.map_nil]; rw [f0]; kernel_rfl) ⟨0, rfl, hW⟩
  case p1 =>
    intro D bq a' w' hk hc he hl hW
    (try dsimp only at hW)
    have f0 : a'.tmps.getD 0 undef = .pointer (some ⟨R, 0, none⟩) := (hl 0).trans ((vsx_no rfl).trans rfl)
    exact wp_val (.pointer (some ⟨R, 0, none⟩)) (by simp only [execOp, Act.eval, List.map_toArray, List.map_cons, List.map_nil]; rw [f0]; kernel_rfl) ⟨0, rfl, hW⟩
  case p2 =>
    intro D bq a' w' hk hc he hl hW
    (try dsimp only at hW)
    have f0 : a'.tmps.getD 0 undef = .pointer (some ⟨R, 0, none⟩) := (hl 0).trans ((vsx_no rfl).trans rfl)
    exact wp_val (.pointer (some ⟨R, 0, none⟩)) (by simp only [execOp, Act.eval, List.map_toArray, List.map_cons, List.map_nil]; rw [f0]; kernel_rfl) ⟨0, rfl, hW⟩
  case p3 =>
    intro D bq a' w' hk hc he hl hW
    (try dsimp only at hW)
    have e2 : a'.tmps.getD 5 undef = .pointer (some ⟨R, 0, none⟩) := (hl 5).trans (vsx_at (f := fun _ => .pointer (some ⟨R, 0, none⟩)) rfl (he ⟨2, .data⟩ (by simp) rfl) rfl)
    exact wp_val (.pointer (some ⟨R, 0, none⟩)) (by simp only [execOp, Act.eval, List.map_toArray, List.map_cons, List.map_nil]; rw [e2]; kernel_rfl) ⟨0, rfl, hW⟩
  case p4 =>
    intro D bq a' w' hk hc he hl hW
    (try dsimp only at hW)
    have e3 : a'.tmps.getD 6 undef = .pointer (some ⟨R, 0, none⟩) := (hl 6).trans (vsx_at (f := fun _ => .pointer (some ⟨R, 0, none⟩)) rfl (he ⟨3, .data⟩ (by simp) rfl) rfl)
    exact wp_val (.pointer (some ⟨R, 0, none⟩)) (by simp only [execOp, Act.eval, List.map_toArray, List.map_cons, List.map_nil]; rw [e3]; kernel_rfl) ⟨0, rfl, hW⟩
  case p5 =>
    intro D bq a' w' hk hc he hl hW
    (try dsimp only at hW)
    have e4 : a'.tmps.getD 7 undef = .pointer (some ⟨R, 0, none⟩) := (hl 7).trans (vsx_at (f := fun _ => .pointer (some ⟨R, 0, none⟩)) rfl (he ⟨4, .data⟩ (by simp) rfl) rfl)
    exact wp_val (.pointer (some ⟨R, 16, none⟩)) (by simp only [execOp, Act.eval, List.map_toArray, List.map_cons, List.map_nil]; rw [e4]; kernel_rfl) ⟨0, rfl, hW⟩
  case p6 =>
    intro D bq a' w' hk hc he hl hW
    (try dsimp only at hW)
    have e5 : a'.tmps.getD 8 undef = .pointer (some ⟨R, 16, none⟩) := (hl 8).trans (vsx_at (f := fun _ => .pointer (some ⟨R, 16, none⟩)) rfl (he ⟨5, .data⟩ (by simp) rfl) rfl)
    have n18 : D 18 = false := hc.no .phase hk rfl (by simp) rfl
    have n22 : D 22 = false := hc.no .phase hk rfl (by simp) rfl
    have hM := hW
    simp only [hk, n18, n22, cond_false, cond_true] at hM
    exact wp_sload _ _ rfl _ _ e5 0 hM (wkC (s)) (#[.int .u8 ((s).dv), .bool ((s).db)]) rfl (by kernel_rfl) (by kernel_rfl) (part2 rfl rfl) ⟨0, rfl, hW⟩
  case p7 =>
    intro D bq a' w' hk hc he hl hW
    (try dsimp only at hW)
    have f0 : a'.tmps.getD 0 undef = .pointer (some ⟨R, 0, none⟩) := (hl 0).trans ((vsx_no rfl).trans rfl)
    exact wp_val (.pointer (some ⟨R, 0, none⟩)) (by simp only [execOp, Act.eval, List.map_toArray, List.map_cons, List.map_nil]; rw [f0]; kernel_rfl) ⟨0, rfl, hW⟩
  case p8 =>
    intro D bq a' w' hk hc he hl hW
    (try dsimp only at hW)
    have e7 : a'.tmps.getD 10 undef = .pointer (some ⟨R, 0, none⟩) := (hl 10).trans (vsx_at (f := fun _ => .pointer (some ⟨R, 0, none⟩)) rfl (he ⟨7, .data⟩ (by simp) rfl) rfl)
    exact wp_val (.pointer (some ⟨R, 0, none⟩)) (by simp only [execOp, Act.eval, List.map_toArray, List.map_cons, List.map_nil]; rw [e7]; kernel_rfl) ⟨0, rfl, hW⟩
  case p9 =>
    intro D bq a' w' hk hc he hl hW
    (try dsimp only at hW)
    have e8 : a'.tmps.getD 11 undef = .pointer (some ⟨R, 0, none⟩) := (hl 11).trans (vsx_at (f := fun _ => .pointer (some ⟨R, 0, none⟩)) rfl (he ⟨8, .data⟩ (by simp) rfl) rfl)
    exact wp_val (.pointer (some ⟨R, 31, none⟩)) (by simp only [execOp, Act.eval, List.map_toArray, List.map_cons, List.map_nil]; rw [e8]; kernel_rfl) ⟨0, rfl, hW⟩
  case p10 =>
    intro D bq a' w' hk hc he hl hW
    (try dsimp only at hW)
    have e9 : a'.tmps.getD 12 undef = .pointer (some ⟨R, 31, none⟩) := (hl 12).trans (vsx_at (f := fun _ => .pointer (some ⟨R, 31, none⟩)) rfl (he ⟨9, .data⟩ (by simp) rfl) rfl)
    have n18 : D 18 = false := hc.no .phase hk rfl (by simp) rfl
    have n22 : D 22 = false := hc.no .phase hk rfl (by simp) rfl
    have hM := hW
    simp only [hk, n18, n22, cond_false, cond_true] at hM
    exact wp_sload _ _ rfl _ _ e9 0 hM (wkC (s)) (#[.int .u8 ((s).v), .bool ((s).vb)]) rfl (by kernel_rfl) (by kernel_rfl) (part2 rfl rfl) ⟨0, rfl, hW⟩
  case p11 =>
    intro D bq a' w' hk hc he hl hW
    (try dsimp only at hW)
    have e6 : a'.tmps.getD 9 undef = .agg #[.int .u8 ((s).dv), .bool ((s).db)] := (hl 9).trans (vsx_at (f := fun _ => .agg #[.int .u8 ((s).dv), .bool ((s).db)]) rfl (he ⟨6, .data⟩ (by simp) rfl) rfl)
    have e10 : a'.tmps.getD 13 undef = .agg #[.int .u8 ((s).v), .bool ((s).vb)] := (hl 13).trans (vsx_at (f := fun _ => .agg #[.int .u8 ((s).v), .bool ((s).vb)]) rfl (he ⟨10, .data⟩ (by simp) rfl) rfl)
    refine wp_callp (vals := #[.agg #[.int .u8 ((s).dv), .bool ((s).db)], .agg #[.int .u8 ((s).v), .bool ((s).vb)]]) rfl rfl (by simp only [List.map_toArray, List.map_cons, List.map_nil, Act.eval, e6, e10]) (by kernel_rfl) (word_ct ((s).dv) ((s).v) ((s).db) ((s).vb) w' (by first | assumption | decide | omega) (by first | assumption | decide | omega) (by first | assumption | decide | omega) (by first | assumption | decide | omega)) ?_
    rintro e w2 ⟨rfl, hB⟩
    exact ⟨_, rfl, 0, rfl, Mem.next hW hB⟩
  case p12 =>
    intro D bq a' w' hk hc he hl hW
    (try dsimp only at hW)
    have e11 : a'.tmps.getD 14 undef = .tuple #[.int .u16 (((s).dv) + 256 * ((s).v)), .bool (((s).db) || ((s).vb))] := (hl 14).trans (vsx_at (f := fun _ => .tuple #[.int .u16 (((s).dv) + 256 * ((s).v)), .bool (((s).db) || ((s).vb))]) rfl (he ⟨11, .data⟩ (by simp) rfl) rfl)
    exact wp_val (.tuple #[.int .u16 (((s).dv) + 256 * ((s).v)), .bool (((s).db) || ((s).vb))]) (by simp only [execOp, Act.eval, List.map_toArray, List.map_cons, List.map_nil]; rw [e11]; kernel_rfl) ⟨0, rfl, hW⟩
  case p13 =>
    intro D bq a' w' hk hc he hl hW
    (try dsimp only at hW)
    have e12 : a'.tmps.getD 2 undef = .tuple #[.int .u16 (((s).dv) + 256 * ((s).v)), .bool (((s).db) || ((s).vb))] := (hl 2).trans (vsx_at (f := fun _ => .tuple #[.int .u16 (((s).dv) + 256 * ((s).v)), .bool (((s).db) || ((s).vb))]) rfl (he ⟨12, .data⟩ (by simp) rfl) rfl)
    exact wp_val (.int .u16 (((s).dv) + 256 * ((s).v))) (by simp only [execOp, Act.eval, List.map_toArray, List.map_cons, List.map_nil]; rw [e12]; kernel_rfl) ⟨0, rfl, hW⟩
  case p14 =>
    intro D bq a' w' hk hc he hl hW
    (try dsimp only at hW)
    have e12 : a'.tmps.getD 2 undef = .tuple #[.int .u16 (((s).dv) + 256 * ((s).v)), .bool (((s).db) || ((s).vb))] := (hl 2).trans (vsx_at (f := fun _ => .tuple #[.int .u16 (((s).dv) + 256 * ((s).v)), .bool (((s).db) || ((s).vb))]) rfl (he ⟨12, .data⟩ (by simp) rfl) rfl)
    exact wp_val (.bool (((s).db) || ((s).vb))) (by simp only [execOp, Act.eval, List.map_toArray, List.map_cons, List.map_nil]; rw [e12]; kernel_rfl) ⟨0, rfl, hW⟩
  case p15 =>
    intro D bq a' w' hk hc he hl hW
    (try dsimp only at hW)
    have e0 : a'.tmps.getD 3 undef = .pointer (some ⟨R, 0, none⟩) := (hl 3).trans (vsx_at (f := fun _ => .pointer (some ⟨R, 0, none⟩)) rfl (he ⟨0, .data⟩ (by simp) rfl) rfl)
    exact wp_val (.pointer (some ⟨R, 0, none⟩)) (by simp only [execOp, Act.eval, List.map_toArray, List.map_cons, List.map_nil]; rw [e0]; kernel_rfl) ⟨0, rfl, hW⟩
  case p16 =>
    intro D bq a' w' hk hc he hl hW
    (try dsimp only at hW)
    have e15 : a'.tmps.getD 17 undef = .pointer (some ⟨R, 0, none⟩) := (hl 17).trans (vsx_at (f := fun _ => .pointer (some ⟨R, 0, none⟩)) rfl (he ⟨15, .data⟩ (by simp) rfl) rfl)
    exact wp_val (.pointer (some ⟨R, 0, none⟩)) (by simp only [execOp, Act.eval, List.map_toArray, List.map_cons, List.map_nil]; rw [e15]; kernel_rfl) ⟨0, rfl, hW⟩
  case p17 =>
    intro D bq a' w' hk hc he hl hW
    (try dsimp only at hW)
    have e16 : a'.tmps.getD 18 undef = .pointer (some ⟨R, 0, none⟩) := (hl 18).trans (vsx_at (f := fun _ => .pointer (some ⟨R, 0, none⟩)) rfl (he ⟨16, .data⟩ (by simp) rfl) rfl)
    exact wp_val (.pointer (some ⟨R, 10, none⟩)) (by simp only [execOp, Act.eval, List.map_toArray, List.map_cons, List.map_nil]; rw [e16]; kernel_rfl) ⟨0, rfl, hW⟩
  case p18 =>
    intro D bq a' w' hk hc he hl hW
    (try dsimp only at hW)
    have e17 : a'.tmps.getD 19 undef = .pointer (some ⟨R, 10, none⟩) := (hl 19).trans (vsx_at (f := fun _ => .pointer (some ⟨R, 10, none⟩)) rfl (he ⟨17, .data⟩ (by simp) rfl) rfl)
    have e13 : a'.tmps.getD 15 undef = .int .u16 (((s).dv) + 256 * ((s).v)) := (hl 15).trans (vsx_at (f := fun _ => .int .u16 (((s).dv) + 256 * ((s).v))) rfl (he ⟨13, .data⟩ (by simp) rfl) rfl)
    have n22 : D 22 = false := hc.no .chain hk rfl (by simp) rfl
    have hM := hW
    simp only [hk, n22, cond_false, cond_true] at hM
    refine wp_sstore1 _ _ _ rfl rfl R 10 e17 0 hM (wkC (s)) (wkC ((s).uPC (((s).dv) + 256 * ((s).v)))) rfl (.int .u16 (((s).dv) + 256 * ((s).v))) e13 (by kernel_rfl) (of_decide_eq_true (by kernel_rfl)) (by kernel_rfl) (st_PC _ _) fun w1 hM1 => ⟨0, rfl, ?_⟩
    (try dsimp only)
    have z22 : doneB D 18 22 = false := n22
    simp only [z22, cond_false]
    exact hM1
  case p19 =>
    intro D bq a' w' hk hc he hl hW
    (try dsimp only at hW)
    have e1 : a'.tmps.getD 4 undef = .pointer (some ⟨R, 0, none⟩) := (hl 4).trans (vsx_at (f := fun _ => .pointer (some ⟨R, 0, none⟩)) rfl (he ⟨1, .data⟩ (by simp) rfl) rfl)
    exact wp_val (.pointer (some ⟨R, 0, none⟩)) (by simp only [execOp, Act.eval, List.map_toArray, List.map_cons, List.map_nil]; rw [e1]; kernel_rfl) ⟨0, rfl, hW⟩
  case p20 =>
    intro D bq a' w' hk hc he hl hW
    (try dsimp only at hW)
    have e19 : a'.tmps.getD 20 undef = .pointer (some ⟨R, 0, none⟩) := (hl 20).trans (vsx_at (f := fun _ => .pointer (some ⟨R, 0, none⟩)) rfl (he ⟨19, .data⟩ (by simp) rfl) rfl)
    exact wp_val (.pointer (some ⟨R, 0, none⟩)) (by simp only [execOp, Act.eval, List.map_toArray, List.map_cons, List.map_nil]; rw [e19]; kernel_rfl) ⟨0, rfl, hW⟩
  case p21 =>
    intro D bq a' w' hk hc he hl hW
    (try dsimp only at hW)
    have e20 : a'.tmps.getD 21 undef = .pointer (some ⟨R, 0, none⟩) := (hl 21).trans (vsx_at (f := fun _ => .pointer (some ⟨R, 0, none⟩)) rfl (he ⟨20, .data⟩ (by simp) rfl) rfl)
    exact wp_val (.pointer (some ⟨R, 11, none⟩)) (by simp only [execOp, Act.eval, List.map_toArray, List.map_cons, List.map_nil]; rw [e20]; kernel_rfl) ⟨0, rfl, hW⟩
  case p22 =>
    intro D bq a' w' hk hc he hl hW
    (try dsimp only at hW)
    have e21 : a'.tmps.getD 22 undef = .pointer (some ⟨R, 11, none⟩) := (hl 22).trans (vsx_at (f := fun _ => .pointer (some ⟨R, 11, none⟩)) rfl (he ⟨21, .data⟩ (by simp) rfl) rfl)
    have e14 : a'.tmps.getD 16 undef = .bool (((s).db) || ((s).vb)) := (hl 16).trans (vsx_at (f := fun _ => .bool (((s).db) || ((s).vb))) rfl (he ⟨14, .data⟩ (by simp) rfl) rfl)
    have y18 : D 18 = true := he ⟨18, .chain⟩ (by simp) rfl
    have hM := hW
    simp only [hk, y18, cond_false, cond_true] at hM
    refine wp_sstore1 _ _ _ rfl rfl R 11 e21 0 hM (wkC ((s).uPC (((s).dv) + 256 * ((s).v)))) (wkC (((s).uPC (((s).dv) + 256 * ((s).v))).uPCS (((s).db) || ((s).vb)))) rfl (.bool (((s).db) || ((s).vb))) e14 (by kernel_rfl) (of_decide_eq_true (by kernel_rfl)) (by kernel_rfl) (st_PCS _ _) fun w1 hM1 => ⟨0, rfl, ?_⟩
    exact hM1
  intro D bq w' hD hW
  (try dsimp only at hW)
  simp only [hD 18 (by decide), hD 22 (by decide), cond_true] at hW
  clear H hD
  have H := hW
  clear hW
  simp only [putAll, vsOf, Nat.reduceAdd, List.foldl_cons, List.foldl_nil, Act.put, List.setIfInBounds_toArray, List.set_cons_succ, List.set_cons_zero]
  (try simp only [IntKind.wrap_u16, IntKind.wrap_u8] at H)
  all_goals (first | refine fall rfl rfl ?_ | refine fallr rfl rfl ?_)
  all_goals (refine ⟨rfl, ?_⟩; first | exact H.only (i := 0) rfl)

set_option maxHeartbeats 2000000 in
theorem addron_ct (s : Wk) (F : Fiw s) : CM 104 s (doM .addrOn s) := by
  intro R T w hR
  obtain ⟨⟨a0, a1, x0, x1, y0, y1, s0, s1, p0, p1, q0, q1, cp, cq, pc0, pc1, op0, op1, ad0, ad1, d0, d1⟩, v0, v1⟩ := F
  clear cp cq
  have HZB := Lib.hid alloc_by
  have HZU := Lib.hid alloc_bus
  have H := Mem.begin hR
  clear hR
  go_enter Tryz.func104, Tryz.ntmps104
  go_wp2_with fail
  (try simp only [Act.put, List.setIfInBounds_toArray, List.set_cons_succ, List.set_cons_zero])
  refine wp_region_x (by kernel_rfl) (by kernel_rfl) [(some 3, fun _ => .pointer (some ⟨R, 0, none⟩)), (some 4, fun _ => .pointer (some ⟨R, 0, none⟩)), (some 5, fun _ => .pointer (some ⟨R, 0, none⟩)), (some 6, fun _ => .pointer (some ⟨R, 0, none⟩)), (some 7, fun _ => .pointer (some ⟨R, 0, none⟩)), (some 8, fun _ => .pointer (some ⟨R, 16, none⟩)), (some 9, fun _ => .agg #[.int .u8 ((s).dv), .bool ((s).db)]), (some 10, fun _ => .pointer (some ⟨R, 0, none⟩)), (some 11, fun _ => .pointer (some ⟨R, 0, none⟩)), (some 12, fun _ => .pointer (some ⟨R, 31, none⟩)), (some 13, fun _ => .agg #[.int .u8 ((s).v), .bool ((s).vb)]), (some 14, fun _ => .tuple #[.int .u16 (((s).dv) + 256 * ((s).v)), .bool (((s).db) || ((s).vb))]), (some 2, fun _ => .tuple #[.int .u16 (((s).dv) + 256 * ((s).v)), .bool (((s).db) || ((s).vb))]), (some 15, fun _ => .int .u16 (((s).dv) + 256 * ((s).v))), (some 16, fun _ => .bool (((s).db) || ((s).vb))), (some 17, fun _ => .pointer (some ⟨R, 0, none⟩)), (some 18, fun _ => .pointer (some ⟨R, 0, none⟩)), (some 19, fun _ => .pointer (some ⟨R, 14, none⟩)), (none, fun _ => undef), (some 20, fun _ => .pointer (some ⟨R, 0, none⟩)), (some 21, fun _ => .pointer (some ⟨R, 0, none⟩)), (some 22, fun _ => .pointer (some ⟨R, 15, none⟩)), (none, fun _ => undef)] (fun D bq w => Mem _ _ _ w ([(R, cond (D 22) (wkC (((s).uAd (((s).dv) + 256 * ((s).v))).uAdS (((s).db) || ((s).vb)))) (cond (D 18) (wkC ((s).uAd (((s).dv) + 256 * ((s).v)))) (wkC (s))))])) 25 (by rfl) (by rfl) (by rfl) H.drew ⟨⟨rfl, ?p0⟩, ⟨rfl, ?p1⟩, ⟨rfl, ?p2⟩, ⟨rfl, ?p3⟩, ⟨rfl, ?p4⟩, ⟨rfl, ?p5⟩, ⟨rfl, ?p6⟩, ⟨rfl, ?p7⟩, ⟨rfl, ?p8⟩, ⟨rfl, ?p9⟩, ⟨rfl, ?p10⟩, ⟨rfl, ?p11⟩, ⟨rfl, ?p12⟩, ⟨rfl, ?p13⟩, ⟨rfl, ?p14⟩, ⟨rfl, ?p15⟩, ⟨rfl, ?p16⟩, ⟨rfl, ?p17⟩, ⟨rfl, ?p18⟩, ⟨rfl, ?p19⟩, ⟨rfl, ?p20⟩, ⟨rfl, ?p21⟩, ⟨rfl, ?p22⟩, trivial⟩ ?_
  case p0 =>
    intro D bq a' w' hk hc he hl hW
    (try dsimp only at hW)
    have f0 : a'.tmps.getD 0 undef = .pointer (some ⟨R, 0, none⟩) := (hl 0).trans ((vsx_no rfl).trans rfl)
    exact wp_val (.pointer (some ⟨R, 0, none⟩)) (by simp only [execOp, Act.eval, List.map_toArray, List.map_cons, List.map_nil]; rw [f0]; kernel_rfl) ⟨0, rfl, hW⟩
  case p1 =>
    intro D bq a' w' hk hc he hl hW
    (try dsimp only at hW)
    have f0 : a'.tmps.getD 0 undef = .pointer (some ⟨R, 0, none⟩) := (hl 0).trans ((vsx_no rfl).trans rfl)
    exact wp_val (.pointer (some ⟨R, 0, none⟩)) (by simp only [execOp, Act.eval, List.map_toArray, List.map_cons, List.map_nil]; rw [f0]; kernel_rfl) ⟨0, rfl, hW⟩
  case p2 =>
    intro D bq a' w' hk hc he hl hW
    (try dsimp only at hW)
    have f0 : a'.tmps.getD 0 undef = .pointer (some ⟨R, 0, none⟩) := (hl 0).trans ((vsx_no rfl).trans rfl)
    exact wp_val (.pointer (some ⟨R, 0, none⟩)) (by simp only [execOp, Act.eval, List.map_toArray, List.map_cons, List.map_nil]; rw [f0]; kernel_rfl) ⟨0, rfl, hW⟩
  case p3 =>
    intro D bq a' w' hk hc he hl hW
    (try dsimp only at hW)
    have e2 : a'.tmps.getD 5 undef = .pointer (some ⟨R, 0, none⟩) := (hl 5).trans (vsx_at (f := fun _ => .pointer (some ⟨R, 0, none⟩)) rfl (he ⟨2, .data⟩ (by simp) rfl) rfl)
    exact wp_val (.pointer (some ⟨R, 0, none⟩)) (by simp only [execOp, Act.eval, List.map_toArray, List.map_cons, List.map_nil]; rw [e2]; kernel_rfl) ⟨0, rfl, hW⟩
  case p4 =>
    intro D bq a' w' hk hc he hl hW
    (try dsimp only at hW)
    have e3 : a'.tmps.getD 6 undef = .pointer (some ⟨R, 0, none⟩) := (hl 6).trans (vsx_at (f := fun _ => .pointer (some ⟨R, 0, none⟩)) rfl (he ⟨3, .data⟩ (by simp) rfl) rfl)
    exact wp_val (.pointer (some ⟨R, 0, none⟩)) (by simp only [execOp, Act.eval, List.map_toArray, List.map_cons, List.map_nil]; rw [e3]; kernel_rfl) ⟨0, rfl, hW⟩
  case p5 =>
    intro D bq a' w' hk hc he hl hW
    (try dsimp only at hW)
    have e4 : a'.tmps.getD 7 undef = .pointer (some ⟨R, 0, none⟩) := (hl 7).trans (vsx_at (f := fun _ => .pointer (some ⟨R, 0, none⟩)) rfl (he ⟨4, .data⟩ (by simp) rfl) rfl)
    exact wp_val (.pointer (some ⟨R, 16, none⟩)) (by simp only [execOp, Act.eval, List.map_toArray, List.map_cons, List.map_nil]; rw [e4]; kernel_rfl) ⟨0, rfl, hW⟩
  case p6 =>
    intro D bq a' w' hk hc he hl hW
    (try dsimp only at hW)
    have e5 : a'.tmps.getD 8 undef = .pointer (some ⟨R, 16, none⟩) := (hl 8).trans (vsx_at (f := fun _ => .pointer (some ⟨R, 16, none⟩)) rfl (he ⟨5, .data⟩ (by simp) rfl) rfl)
    have n18 : D 18 = false := hc.no .phase hk rfl (by simp) rfl
    have n22 : D 22 = false := hc.no .phase hk rfl (by simp) rfl
    have hM := hW
    simp only [hk, n18, n22, cond_false, cond_true] at hM
    exact wp_sload _ _ rfl _ _ e5 0 hM (wkC (s)) (#[.int .u8 ((s).dv), .bool ((s).db)]) rfl (by kernel_rfl) (by kernel_rfl) (part2 rfl rfl) ⟨0, rfl, hW⟩
  case p7 =>
    intro D bq a' w' hk hc he hl hW
    (try dsimp only at hW)
    have f0 : a'.tmps.getD 0 undef = .pointer (some ⟨R, 0, none⟩) := (hl 0).trans ((vsx_no rfl).trans rfl)
    exact wp_val (.pointer (some ⟨R, 0, none⟩)) (by simp only [execOp, Act.eval, List.map_toArray, List.map_cons, List.map_nil]; rw [f0]; kernel_rfl) ⟨0, rfl, hW⟩
  case p8 =>
    intro D bq a' w' hk hc he hl hW
    (try dsimp only at hW)
    have e7 : a'.tmps.getD 10 undef = .pointer (some ⟨R, 0, none⟩) := (hl 10).trans (vsx_at (f := fun _ => .pointer (some ⟨R, 0, none⟩)) rfl (he ⟨7, .data⟩ (by simp) rfl) rfl)
    exact wp_val (.pointer (some ⟨R, 0, none⟩)) (by simp only [execOp, Act.eval, List.map_toArray, List.map_cons, List.map_nil]; rw [e7]; kernel_rfl) ⟨0, rfl, hW⟩
  case p9 =>
    intro D bq a' w' hk hc he hl hW
    (try dsimp only at hW)
    have e8 : a'.tmps.getD 11 undef = .pointer (some ⟨R, 0, none⟩) := (hl 11).trans (vsx_at (f := fun _ => .pointer (some ⟨R, 0, none⟩)) rfl (he ⟨8, .data⟩ (by simp) rfl) rfl)
    exact wp_val (.pointer (some ⟨R, 31, none⟩)) (by simp only [execOp, Act.eval, List.map_toArray, List.map_cons, List.map_nil]; rw [e8]; kernel_rfl) ⟨0, rfl, hW⟩
  case p10 =>
    intro D bq a' w' hk hc he hl hW
    (try dsimp only at hW)
    have e9 : a'.tmps.getD 12 undef = .pointer (some ⟨R, 31, none⟩) := (hl 12).trans (vsx_at (f := fun _ => .pointer (some ⟨R, 31, none⟩)) rfl (he ⟨9, .data⟩ (by simp) rfl) rfl)
    have n18 : D 18 = false := hc.no .phase hk rfl (by simp) rfl
    have n22 : D 22 = false := hc.no .phase hk rfl (by simp) rfl
    have hM := hW
    simp only [hk, n18, n22, cond_false, cond_true] at hM
    exact wp_sload _ _ rfl _ _ e9 0 hM (wkC (s)) (#[.int .u8 ((s).v), .bool ((s).vb)]) rfl (by kernel_rfl) (by kernel_rfl) (part2 rfl rfl) ⟨0, rfl, hW⟩
  case p11 =>
    intro D bq a' w' hk hc he hl hW
    (try dsimp only at hW)
    have e6 : a'.tmps.getD 9 undef = .agg #[.int .u8 ((s).dv), .bool ((s).db)] := (hl 9).trans (vsx_at (f := fun _ => .agg #[.int .u8 ((s).dv), .bool ((s).db)]) rfl (he ⟨6, .data⟩ (by simp) rfl) rfl)
    have e10 : a'.tmps.getD 13 undef = .agg #[.int .u8 ((s).v), .bool ((s).vb)] := (hl 13).trans (vsx_at (f := fun _ => .agg #[.int .u8 ((s).v), .bool ((s).vb)]) rfl (he ⟨10, .data⟩ (by simp) rfl) rfl)
    refine wp_callp (vals := #[.agg #[.int .u8 ((s).dv), .bool ((s).db)], .agg #[.int .u8 ((s).v), .bool ((s).vb)]]) rfl rfl (by simp only [List.map_toArray, List.map_cons, List.map_nil, Act.eval, e6, e10]) (by kernel_rfl) (word_ct ((s).dv) ((s).v) ((s).db) ((s).vb) w' (by first | assumption | decide | omega) (by first | assumption | decide | omega) (by first | assumption | decide | omega) (by first | assumption | decide | omega)) ?_
    rintro e w2 ⟨rfl, hB⟩
    exact ⟨_, rfl, 0, rfl, Mem.next hW hB⟩
  case p12 =>
    intro D bq a' w' hk hc he hl hW
    (try dsimp only at hW)
    have e11 : a'.tmps.getD 14 undef = .tuple #[.int .u16 (((s).dv) + 256 * ((s).v)), .bool (((s).db) || ((s).vb))] := (hl 14).trans (vsx_at (f := fun _ => .tuple #[.int .u16 (((s).dv) + 256 * ((s).v)), .bool (((s).db) || ((s).vb))]) rfl (he ⟨11, .data⟩ (by simp) rfl) rfl)
    exact wp_val (.tuple #[.int .u16 (((s).dv) + 256 * ((s).v)), .bool (((s).db) || ((s).vb))]) (by simp only [execOp, Act.eval, List.map_toArray, List.map_cons, List.map_nil]; rw [e11]; kernel_rfl) ⟨0, rfl, hW⟩
  case p13 =>
    intro D bq a' w' hk hc he hl hW
    (try dsimp only at hW)
    have e12 : a'.tmps.getD 2 undef = .tuple #[.int .u16 (((s).dv) + 256 * ((s).v)), .bool (((s).db) || ((s).vb))] := (hl 2).trans (vsx_at (f := fun _ => .tuple #[.int .u16 (((s).dv) + 256 * ((s).v)), .bool (((s).db) || ((s).vb))]) rfl (he ⟨12, .data⟩ (by simp) rfl) rfl)
    exact wp_val (.int .u16 (((s).dv) + 256 * ((s).v))) (by simp only [execOp, Act.eval, List.map_toArray, List.map_cons, List.map_nil]; rw [e12]; kernel_rfl) ⟨0, rfl, hW⟩
  case p14 =>
    intro D bq a' w' hk hc he hl hW
    (try dsimp only at hW)
    have e12 : a'.tmps.getD 2 undef = .tuple #[.int .u16 (((s).dv) + 256 * ((s).v)), .bool (((s).db) || ((s).vb))] := (hl 2).trans (vsx_at (f := fun _ => .tuple #[.int .u16 (((s).dv) + 256 * ((s).v)), .bool (((s).db) || ((s).vb))]) rfl (he ⟨12, .data⟩ (by simp) rfl) rfl)
    exact wp_val (.bool (((s).db) || ((s).vb))) (by simp only [execOp, Act.eval, List.map_toArray, List.map_cons, List.map_nil]; rw [e12]; kernel_rfl) ⟨0, rfl, hW⟩
  case p15 =>
    intro D bq a' w' hk hc he hl hW
    (try dsimp only at hW)
    have e0 : a'.tmps.getD 3 undef = .pointer (some ⟨R, 0, none⟩) := (hl 3).trans (vsx_at (f := fun _ => .pointer (some ⟨R, 0, none⟩)) rfl (he ⟨0, .data⟩ (by simp) rfl) rfl)
    exact wp_val (.pointer (some ⟨R, 0, none⟩)) (by simp only [execOp, Act.eval, List.map_toArray, List.map_cons, List.map_nil]; rw [e0]; kernel_rfl) ⟨0, rfl, hW⟩
  case p16 =>
    intro D bq a' w' hk hc he hl hW
    (try dsimp only at hW)
    have e15 : a'.tmps.getD 17 undef = .pointer (some ⟨R, 0, none⟩) := (hl 17).trans (vsx_at (f := fun _ => .pointer (some ⟨R, 0, none⟩)) rfl (he ⟨15, .data⟩ (by simp) rfl) rfl)
    exact wp_val (.pointer (some ⟨R, 0, none⟩)) (by simp only [execOp, Act.eval, List.map_toArray, List.map_cons, List.map_nil]; rw [e15]; kernel_rfl) ⟨0, rfl, hW⟩
  case p17 =>
    intro D bq a' w' hk hc he hl hW
    (try dsimp only at hW)
    have e16 : a'.tmps.getD 18 undef = .pointer (some ⟨R, 0, none⟩) := (hl 18).trans (vsx_at (f := fun _ => .pointer (some ⟨R, 0, none⟩)) rfl (he ⟨16, .data⟩ (by simp) rfl) rfl)
    exact wp_val (.pointer (some ⟨R, 14, none⟩)) (by simp only [execOp, Act.eval, List.map_toArray, List.map_cons, List.map_nil]; rw [e16]; kernel_rfl) ⟨0, rfl, hW⟩
  case p18 =>
    intro D bq a' w' hk hc he hl hW
    (try dsimp only at hW)
    have e17 : a'.tmps.getD 19 undef = .pointer (some ⟨R, 14, none⟩) := (hl 19).trans (vsx_at (f := fun _ => .pointer (some ⟨R, 14, none⟩)) rfl (he ⟨17, .data⟩ (by simp) rfl) rfl)
    have e13 : a'.tmps.getD 15 undef = .int .u16 (((s).dv) + 256 * ((s).v)) := (hl 15).trans (vsx_at (f := fun _ => .int .u16 (((s).dv) + 256 * ((s).v))) rfl (he ⟨13, .data⟩ (by simp) rfl) rfl)
    have n22 : D 22 = false := hc.no .chain hk rfl (by simp) rfl
    have hM := hW
    simp only [hk, n22, cond_false, cond_true] at hM
    refine wp_sstore1 _ _ _ rfl rfl R 14 e17 0 hM (wkC (s)) (wkC ((s).uAd (((s).dv) + 256 * ((s).v)))) rfl (.int .u16 (((s).dv) + 256 * ((s).v))) e13 (by kernel_rfl) (of_decide_eq_true (by kernel_rfl)) (by kernel_rfl) (st_Ad _ _) fun w1 hM1 => ⟨0, rfl, ?_⟩
    (try dsimp only)
    have z22 : doneB D 18 22 = false := n22
    simp only [z22, cond_false]
    exact hM1
  case p19 =>
    intro D bq a' w' hk hc he hl hW
    (try dsimp only at hW)
    have e1 : a'.tmps.getD 4 undef = .pointer (some ⟨R, 0, none⟩) := (hl 4).trans (vsx_at (f := fun _ => .pointer (some ⟨R, 0, none⟩)) rfl (he ⟨1, .data⟩ (by simp) rfl) rfl)
    exact wp_val (.pointer (some ⟨R, 0, none⟩)) (by simp only [execOp, Act.eval, List.map_toArray, List.map_cons, List.map_nil]; rw [e1]; kernel_rfl) ⟨0, rfl, hW⟩
  case p20 =>
    intro D bq a' w' hk hc he hl hW
    (try dsimp only at hW)
    have e19 : a'.tmps.getD 20 undef = .pointer (some ⟨R, 0, none⟩) := (hl 20).trans (vsx_at (f := fun _ => .pointer (some ⟨R, 0, none⟩)) rfl (he ⟨19, .data⟩ (by simp) rfl) rfl)
    exact wp_val (.pointer (some ⟨R, 0, none⟩)) (by simp only [execOp, Act.eval, List.map_toArray, List.map_cons, List.map_nil]; rw [e19]; kernel_rfl) ⟨0, rfl, hW⟩
  case p21 =>
    intro D bq a' w' hk hc he hl hW
    (try dsimp only at hW)
    have e20 : a'.tmps.getD 21 undef = .pointer (some ⟨R, 0, none⟩) := (hl 21).trans (vsx_at (f := fun _ => .pointer (some ⟨R, 0, none⟩)) rfl (he ⟨20, .data⟩ (by simp) rfl) rfl)
    exact wp_val (.pointer (some ⟨R, 15, none⟩)) (by simp only [execOp, Act.eval, List.map_toArray, List.map_cons, List.map_nil]; rw [e20]; kernel_rfl) ⟨0, rfl, hW⟩
  case p22 =>
    intro D bq a' w' hk hc he hl hW
    (try dsimp only at hW)
    have e21 : a'.tmps.getD 22 undef = .pointer (some ⟨R, 15, none⟩) := (hl 22).trans (vsx_at (f := fun _ => .pointer (some ⟨R, 15, none⟩)) rfl (he ⟨21, .data⟩ (by simp) rfl) rfl)
    have e14 : a'.tmps.getD 16 undef = .bool (((s).db) || ((s).vb)) := (hl 16).trans (vsx_at (f := fun _ => .bool (((s).db) || ((s).vb))) rfl (he ⟨14, .data⟩ (by simp) rfl) rfl)
    have y18 : D 18 = true := he ⟨18, .chain⟩ (by simp) rfl
    have hM := hW
    simp only [hk, y18, cond_false, cond_true] at hM
    refine wp_sstore1 _ _ _ rfl rfl R 15 e21 0 hM (wkC ((s).uAd (((s).dv) + 256 * ((s).v)))) (wkC (((s).uAd (((s).dv) + 256 * ((s).v))).uAdS (((s).db) || ((s).vb)))) rfl (.bool (((s).db) || ((s).vb))) e14 (by kernel_rfl) (of_decide_eq_true (by kernel_rfl)) (by kernel_rfl) (st_AdS _ _) fun w1 hM1 => ⟨0, rfl, ?_⟩
    exact hM1
  intro D bq w' hD hW
  (try dsimp only at hW)
  simp only [hD 18 (by decide), hD 22 (by decide), cond_true] at hW
  clear H hD
  have H := hW
  clear hW
  simp only [putAll, vsOf, Nat.reduceAdd, List.foldl_cons, List.foldl_nil, Act.put, List.setIfInBounds_toArray, List.set_cons_succ, List.set_cons_zero]
  go_wp2_with (first | (go_at_call 118; obtain ⟨T0, hT⟩ := H.get (i := 0) rfl; (with_reducible refine Calls.mono (on_ct _ _ _ _ hT) ?_); rintro e w2 ⟨rfl, hm⟩; replace H := H.call (i := 0) rfl hm; clear hm hT; simp only [List.set_cons_zero, List.set_cons_succ] at H) | go_skip | fail)
  (try simp only [IntKind.wrap_u16, IntKind.wrap_u8] at H)
  all_goals (first | refine fall rfl rfl ?_ | refine fallr rfl rfl ?_)
  all_goals (refine ⟨rfl, ?_⟩; first | exact H.only (i := 0) rfl)

set_option maxHeartbeats 2000000 in
theorem zeroon_ct (s : Wk) (F : Fiw s) : CM 138 s (doM .zeroOn s) := by
  intro R T w hR
  obtain ⟨⟨a0, a1, x0, x1, y0, y1, s0, s1, p0, p1, q0, q1, cp, cq, pc0, pc1, op0, op1, ad0, ad1, d0, d1⟩, v0, v1⟩ := F
  clear cp cq
  have HZB := Lib.hid alloc_by
  have HZU := Lib.hid alloc_bus
  have H := Mem.begin hR
  clear hR
  go_enter Tryz.func138, Tryz.ntmps138
  go_wp2_with fail
  (try simp only [Act.put, List.setIfInBounds_toArray, List.set_cons_succ, List.set_cons_zero])
  refine wp_region_x (by kernel_rfl) (by kernel_rfl) [(some 3, fun _ => .pointer (some ⟨R, 0, none⟩)), (some 4, fun _ => .pointer (some ⟨R, 0, none⟩)), (some 5, fun _ => .pointer (some ⟨R, 0, none⟩)), (some 6, fun _ => .pointer (some ⟨R, 0, none⟩)), (some 7, fun _ => .pointer (some ⟨R, 31, none⟩)), (some 8, fun _ => .agg #[.int .u8 ((s).v), .bool ((s).vb)]), (some 9, fun _ => .agg #[.int .u8 (0), .bool (false)]), (some 10, fun _ => .tuple #[.int .u16 (((s).v) + 256 * (0)), .bool (((s).vb) || (false))]), (some 2, fun _ => .tuple #[.int .u16 (((s).v) + 256 * (0)), .bool (((s).vb) || (false))]), (some 11, fun _ => .int .u16 (((s).v) + 256 * (0))), (some 12, fun _ => .bool (((s).vb) || (false))), (some 13, fun _ => .pointer (some ⟨R, 0, none⟩)), (some 14, fun _ => .pointer (some ⟨R, 0, none⟩)), (some 15, fun _ => .pointer (some ⟨R, 14, none⟩)), (none, fun _ => undef), (some 16, fun _ => .pointer (some ⟨R, 0, none⟩)), (some 17, fun _ => .pointer (some ⟨R, 0, none⟩)), (some 18, fun _ => .pointer (some ⟨R, 15, none⟩)), (none, fun _ => undef)] (fun D bq w => Mem _ _ _ w ([(R, cond (D 18) (wkC (((s).uAd (((s).v) + 256 * (0))).uAdS (((s).vb) || (false)))) (cond (D 14) (wkC ((s).uAd (((s).v) + 256 * (0)))) (wkC (s))))])) 21 (by rfl) (by rfl) (by rfl) H.drew ⟨⟨rfl, ?p0⟩, ⟨rfl, ?p1⟩, ⟨rfl, ?p2⟩, ⟨rfl, ?p3⟩, ⟨rfl, ?p4⟩, ⟨rfl, ?p5⟩, ⟨rfl, ?p6⟩, ⟨rfl, ?p7⟩, ⟨rfl, ?p8⟩, ⟨rfl, ?p9⟩, ⟨rfl, ?p10⟩, ⟨rfl, ?p11⟩, ⟨rfl, ?p12⟩, ⟨rfl, ?p13⟩, ⟨rfl, ?p14⟩, ⟨rfl, ?p15⟩, ⟨rfl, ?p16⟩, ⟨rfl, ?p17⟩, ⟨rfl, ?p18⟩, trivial⟩ ?_
  case p0 =>
    intro D bq a' w' hk hc he hl hW
    (try dsimp only at hW)
    have f0 : a'.tmps.getD 0 undef = .pointer (some ⟨R, 0, none⟩) := (hl 0).trans ((vsx_no rfl).trans rfl)
    exact wp_val (.pointer (some ⟨R, 0, none⟩)) (by simp only [execOp, Act.eval, List.map_toArray, List.map_cons, List.map_nil]; rw [f0]; kernel_rfl) ⟨0, rfl, hW⟩
  case p1 =>
    intro D bq a' w' hk hc he hl hW
    (try dsimp only at hW)
    have f0 : a'.tmps.getD 0 undef = .pointer (some ⟨R, 0, none⟩) := (hl 0).trans ((vsx_no rfl).trans rfl)
    exact wp_val (.pointer (some ⟨R, 0, none⟩)) (by simp only [execOp, Act.eval, List.map_toArray, List.map_cons, List.map_nil]; rw [f0]; kernel_rfl) ⟨0, rfl, hW⟩
  case p2 =>
    intro D bq a' w' hk hc he hl hW
    (try dsimp only at hW)
    have f0 : a'.tmps.getD 0 undef = .pointer (some ⟨R, 0, none⟩) := (hl 0).trans ((vsx_no rfl).trans rfl)
    exact wp_val (.pointer (some ⟨R, 0, none⟩)) (by simp only [execOp, Act.eval, List.map_toArray, List.map_cons, List.map_nil]; rw [f0]; kernel_rfl) ⟨0, rfl, hW⟩
  case p3 =>
    intro D bq a' w' hk hc he hl hW
    (try dsimp only at hW)
    have e2 : a'.tmps.getD 5 undef = .pointer (some ⟨R, 0, none⟩) := (hl 5).trans (vsx_at (f := fun _ => .pointer (some ⟨R, 0, none⟩)) rfl (he ⟨2, .data⟩ (by simp) rfl) rfl)
    exact wp_val (.pointer (some ⟨R, 0, none⟩)) (by simp only [execOp, Act.eval, List.map_toArray, List.map_cons, List.map_nil]; rw [e2]; kernel_rfl) ⟨0, rfl, hW⟩
  case p4 =>
    intro D bq a' w' hk hc he hl hW
    (try dsimp only at hW)
    have e3 : a'.tmps.getD 6 undef = .pointer (some ⟨R, 0, none⟩) := (hl 6).trans (vsx_at (f := fun _ => .pointer (some ⟨R, 0, none⟩)) rfl (he ⟨3, .data⟩ (by simp) rfl) rfl)
    exact wp_val (.pointer (some ⟨R, 31, none⟩)) (by simp only [execOp, Act.eval, List.map_toArray, List.map_cons, List.map_nil]; rw [e3]; kernel_rfl) ⟨0, rfl, hW⟩
  case p5 =>
    intro D bq a' w' hk hc he hl hW
    (try dsimp only at hW)
    have e4 : a'.tmps.getD 7 undef = .pointer (some ⟨R, 31, none⟩) := (hl 7).trans (vsx_at (f := fun _ => .pointer (some ⟨R, 31, none⟩)) rfl (he ⟨4, .data⟩ (by simp) rfl) rfl)
    have n14 : D 14 = false := hc.no .phase hk rfl (by simp) rfl
    have n18 : D 18 = false := hc.no .phase hk rfl (by simp) rfl
    have hM := hW
    simp only [hk, n14, n18, cond_false, cond_true] at hM
    exact wp_sload _ _ rfl _ _ e4 0 hM (wkC (s)) (#[.int .u8 ((s).v), .bool ((s).vb)]) rfl (by kernel_rfl) (by kernel_rfl) (part2 rfl rfl) ⟨0, rfl, hW⟩
  case p6 =>
    intro D bq a' w' hk hc he hl hW
    (try dsimp only at hW)
    refine wp_callp (vals := #[.int .u8 (0)]) rfl rfl (by simp only [List.map_toArray, List.map_cons, List.map_nil, Act.eval]) (by kernel_rfl) (low_ct (0) w') ?_
    rintro e w2 ⟨rfl, hB⟩
    exact ⟨_, rfl, 0, rfl, Mem.next hW hB⟩
  case p7 =>
    intro D bq a' w' hk hc he hl hW
    (try dsimp only at hW)
    have e5 : a'.tmps.getD 8 undef = .agg #[.int .u8 ((s).v), .bool ((s).vb)] := (hl 8).trans (vsx_at (f := fun _ => .agg #[.int .u8 ((s).v), .bool ((s).vb)]) rfl (he ⟨5, .data⟩ (by simp) rfl) rfl)
    have e6 : a'.tmps.getD 9 undef = .agg #[.int .u8 (0), .bool (false)] := (hl 9).trans (vsx_at (f := fun _ => .agg #[.int .u8 (0), .bool (false)]) rfl (he ⟨6, .data⟩ (by simp) rfl) rfl)
    refine wp_callp (vals := #[.agg #[.int .u8 ((s).v), .bool ((s).vb)], .agg #[.int .u8 (0), .bool (false)]]) rfl rfl (by simp only [List.map_toArray, List.map_cons, List.map_nil, Act.eval, e5, e6]) (by kernel_rfl) (word_ct ((s).v) (0) ((s).vb) (false) w' (by first | assumption | decide | omega) (by first | assumption | decide | omega) (by first | assumption | decide | omega) (by first | assumption | decide | omega)) ?_
    rintro e w2 ⟨rfl, hB⟩
    exact ⟨_, rfl, 0, rfl, Mem.next hW hB⟩
  case p8 =>
    intro D bq a' w' hk hc he hl hW
    (try dsimp only at hW)
    have e7 : a'.tmps.getD 10 undef = .tuple #[.int .u16 (((s).v) + 256 * (0)), .bool (((s).vb) || (false))] := (hl 10).trans (vsx_at (f := fun _ => .tuple #[.int .u16 (((s).v) + 256 * (0)), .bool (((s).vb) || (false))]) rfl (he ⟨7, .data⟩ (by simp) rfl) rfl)
    exact wp_val (.tuple #[.int .u16 (((s).v) + 256 * (0)), .bool (((s).vb) || (false))]) (by simp only [execOp, Act.eval, List.map_toArray, List.map_cons, List.map_nil]; rw [e7]; kernel_rfl) ⟨0, rfl, hW⟩
  case p9 =>
    intro D bq a' w' hk hc he hl hW
    (try dsimp only at hW)
    have e8 : a'.tmps.getD 2 undef = .tuple #[.int .u16 (((s).v) + 256 * (0)), .bool (((s).vb) || (false))] := (hl 2).trans (vsx_at (f := fun _ => .tuple #[.int .u16 (((s).v) + 256 * (0)), .bool (((s).vb) || (false))]) rfl (he ⟨8, .data⟩ (by simp) rfl) rfl)
    exact wp_val (.int .u16 (((s).v) + 256 * (0))) (by simp only [execOp, Act.eval, List.map_toArray, List.map_cons, List.map_nil]; rw [e8]; kernel_rfl) ⟨0, rfl, hW⟩
  case p10 =>
    intro D bq a' w' hk hc he hl hW
    (try dsimp only at hW)
    have e8 : a'.tmps.getD 2 undef = .tuple #[.int .u16 (((s).v) + 256 * (0)), .bool (((s).vb) || (false))] := (hl 2).trans (vsx_at (f := fun _ => .tuple #[.int .u16 (((s).v) + 256 * (0)), .bool (((s).vb) || (false))]) rfl (he ⟨8, .data⟩ (by simp) rfl) rfl)
    exact wp_val (.bool (((s).vb) || (false))) (by simp only [execOp, Act.eval, List.map_toArray, List.map_cons, List.map_nil]; rw [e8]; kernel_rfl) ⟨0, rfl, hW⟩
  case p11 =>
    intro D bq a' w' hk hc he hl hW
    (try dsimp only at hW)
    have e0 : a'.tmps.getD 3 undef = .pointer (some ⟨R, 0, none⟩) := (hl 3).trans (vsx_at (f := fun _ => .pointer (some ⟨R, 0, none⟩)) rfl (he ⟨0, .data⟩ (by simp) rfl) rfl)
    exact wp_val (.pointer (some ⟨R, 0, none⟩)) (by simp only [execOp, Act.eval, List.map_toArray, List.map_cons, List.map_nil]; rw [e0]; kernel_rfl) ⟨0, rfl, hW⟩
  case p12 =>
    intro D bq a' w' hk hc he hl hW
    (try dsimp only at hW)
    have e11 : a'.tmps.getD 13 undef = .pointer (some ⟨R, 0, none⟩) := (hl 13).trans (vsx_at (f := fun _ => .pointer (some ⟨R, 0, none⟩)) rfl (he ⟨11, .data⟩ (by simp) rfl) rfl)
    exact wp_val (.pointer (some ⟨R, 0, none⟩)) (by simp only [execOp, Act.eval, List.map_toArray, List.map_cons, List.map_nil]; rw [e11]; kernel_rfl) ⟨0, rfl, hW⟩
  case p13 =>
    intro D bq a' w' hk hc he hl hW
    (try dsimp only at hW)
    have e12 : a'.tmps.getD 14 undef = .pointer (some ⟨R, 0, none⟩) := (hl 14).trans (vsx_at (f := fun _ => .pointer (some ⟨R, 0, none⟩)) rfl (he ⟨12, .data⟩ (by simp) rfl) rfl)
    exact wp_val (.pointer (some ⟨R, 14, none⟩)) (by simp only [execOp, Act.eval, List.map_toArray, List.map_cons, List.map_nil]; rw [e12]; kernel_rfl) ⟨0, rfl, hW⟩
  case p14 =>
    intro D bq a' w' hk hc he hl hW
    (try dsimp only at hW)
    have e13 : a'.tmps.getD 15 undef = .pointer (some ⟨R, 14, none⟩) := (hl 15).trans (vsx_at (f := fun _ => .pointer (some ⟨R, 14, none⟩)) rfl (he ⟨13, .data⟩ (by simp) rfl) rfl)
    have e9 : a'.tmps.getD 11 undef = .int .u16 (((s).v) + 256 * (0)) := (hl 11).trans (vsx_at (f := fun _ => .int .u16 (((s).v) + 256 * (0))) rfl (he ⟨9, .data⟩ (by simp) rfl) rfl)
    have n18 : D 18 = false := hc.no .chain hk rfl (by simp) rfl
    have hM := hW
    simp only [hk, n18, cond_false, cond_true] at hM
    refine wp_sstore1 _ _ _ rfl rfl R 14 e13 0 hM (wkC (s)) (wkC ((s).uAd (((s).v) + 256 * (0)))) rfl (.int .u16 (((s).v) + 256 * (0))) e9 (by kernel_rfl) (of_decide_eq_true (by kernel_rfl)) (by kernel_rfl) (st_Ad _ _) fun w1 hM1 => ⟨0, rfl, ?_⟩
    (try dsimp only)
    have z18 : doneB D 14 18 = false := n18
    simp only [z18, cond_false]
    exact hM1
  case p15 =>
    intro D bq a' w' hk hc he hl hW
    (try dsimp only at hW)
    have e1 : a'.tmps.getD 4 undef = .pointer (some ⟨R, 0, none⟩) := (hl 4).trans (vsx_at (f := fun _ => .pointer (some ⟨R, 0, none⟩)) rfl (he ⟨1, .data⟩ (by simp) rfl) rfl)
    exact wp_val (.pointer (some ⟨R, 0, none⟩)) (by simp only [execOp, Act.eval, List.map_toArray, List.map_cons, List.map_nil]; rw [e1]; kernel_rfl) ⟨0, rfl, hW⟩
  case p16 =>
    intro D bq a' w' hk hc he hl hW
    (try dsimp only at hW)
    have e15 : a'.tmps.getD 16 undef = .pointer (some ⟨R, 0, none⟩) := (hl 16).trans (vsx_at (f := fun _ => .pointer (some ⟨R, 0, none⟩)) rfl (he ⟨15, .data⟩ (by simp) rfl) rfl)
    exact wp_val (.pointer (some ⟨R, 0, none⟩)) (by simp only [execOp, Act.eval, List.map_toArray, List.map_cons, List.map_nil]; rw [e15]; kernel_rfl) ⟨0, rfl, hW⟩
  case p17 =>
    intro D bq a' w' hk hc he hl hW
    (try dsimp only at hW)
    have e16 : a'.tmps.getD 17 undef = .pointer (some ⟨R, 0, none⟩) := (hl 17).trans (vsx_at (f := fun _ => .pointer (some ⟨R, 0, none⟩)) rfl (he ⟨16, .data⟩ (by simp) rfl) rfl)
    exact wp_val (.pointer (some ⟨R, 15, none⟩)) (by simp only [execOp, Act.eval, List.map_toArray, List.map_cons, List.map_nil]; rw [e16]; kernel_rfl) ⟨0, rfl, hW⟩
  case p18 =>
    intro D bq a' w' hk hc he hl hW
    (try dsimp only at hW)
    have e17 : a'.tmps.getD 18 undef = .pointer (some ⟨R, 15, none⟩) := (hl 18).trans (vsx_at (f := fun _ => .pointer (some ⟨R, 15, none⟩)) rfl (he ⟨17, .data⟩ (by simp) rfl) rfl)
    have e10 : a'.tmps.getD 12 undef = .bool (((s).vb) || (false)) := (hl 12).trans (vsx_at (f := fun _ => .bool (((s).vb) || (false))) rfl (he ⟨10, .data⟩ (by simp) rfl) rfl)
    have y14 : D 14 = true := he ⟨14, .chain⟩ (by simp) rfl
    have hM := hW
    simp only [hk, y14, cond_false, cond_true] at hM
    refine wp_sstore1 _ _ _ rfl rfl R 15 e17 0 hM (wkC ((s).uAd (((s).v) + 256 * (0)))) (wkC (((s).uAd (((s).v) + 256 * (0))).uAdS (((s).vb) || (false)))) rfl (.bool (((s).vb) || (false))) e10 (by kernel_rfl) (of_decide_eq_true (by kernel_rfl)) (by kernel_rfl) (st_AdS _ _) fun w1 hM1 => ⟨0, rfl, ?_⟩
    exact hM1
  intro D bq w' hD hW
  (try dsimp only at hW)
  simp only [hD 14 (by decide), hD 18 (by decide), cond_true] at hW
  clear H hD
  have H := hW
  clear hW
  simp only [putAll, vsOf, Nat.reduceAdd, List.foldl_cons, List.foldl_nil, Act.put, List.setIfInBounds_toArray, List.set_cons_succ, List.set_cons_zero]
  go_wp2_with (first | (go_at_call 118; obtain ⟨T0, hT⟩ := H.get (i := 0) rfl; (with_reducible refine Calls.mono (on_ct _ _ _ _ hT) ?_); rintro e w2 ⟨rfl, hm⟩; replace H := H.call (i := 0) rfl hm; clear hm hT; simp only [List.set_cons_zero, List.set_cons_succ] at H) | go_skip | fail)
  (try simp only [IntKind.wrap_u16, IntKind.wrap_u8] at H)
  all_goals (first | refine fall rfl rfl ?_ | refine fallr rfl rfl ?_)
  all_goals (refine ⟨rfl, ?_⟩; first | (refine (H.only (i := 0) rfl).asW ?_; clear H; simp [IntKind.wrap_u16, IntKind.wrap_u8, Wk.uA, Wk.uX, Wk.uY, Wk.uS, Wk.uSV, Wk.uF, Wk.uPC, Wk.uPCS, Wk.uOp, Wk.uT, Wk.uAd, Wk.uAdS, Wk.uD, Wk.uCr, Wk.uIntr, Wk.uNmi, Wk.uGot, Wk.uPend, Wk.uCtl, Wk.uJam, Wk.uNx, Wk.uIs, doM, onW, keepW, jumpW, pushedW, pulledW, addW, reachW, begunW, beginW, branchW, aimW, crossW, loadA, loadX, loadY, flagW, cmpW, endW, hearW, turnW, *]; done))

set_option maxHeartbeats 2000000 in
theorem add_ct (s : Wk) (v : Int) (b : Bool) (F : Fiw s) (g0 : 0 ≤ v) (g1 : v < 256) : CB 179 s (addW s v b) v b := by
  intro R T w hR
  obtain ⟨⟨a0, a1, x0, x1, y0, y1, s0, s1, p0, p1, q0, q1, cp, cq, pc0, pc1, op0, op1, ad0, ad1, d0, d1⟩, v0, v1⟩ := F
  clear cp cq
  have HZB := Lib.hid alloc_by
  have HZU := Lib.hid alloc_bus
  have H := Mem.begin hR
  clear hR
  have MR1 : True := trivial
  go_enter Tryz.func179, Tryz.ntmps179
  go_wp2_with (first | (refine wpList_mboxA rfl _ _ rfl H _ rfl ?_; clear H; (first | (clear MR1; intro R1 w1 _ H))) | go_skip | fail)
  (try simp only [Act.put, List.setIfInBounds_toArray, List.set_cons_succ, List.set_cons_zero])
  (refine wp_region_tails_below 11 (by kernel_rfl) (by kernel_rfl) ?_); (simp only [List.take_succ_cons, List.take_zero, List.drop_succ_cons, List.drop_zero]); (repeat (first | (go_big_quiet_want; refine gate_qload _ _ rfl ?_; (first | (refine quiet_mload1 _ _ rfl _ _ rfl 0 H _ (.int _ _) rfl rfl (by decide +kernel) ?_) | (refine quiet_mload1 _ _ rfl _ _ rfl 1 H _ (.int _ _) rfl rfl (by decide +kernel) ?_)); simp only [Act.put, List.setIfInBounds_toArray, List.set_cons_succ, List.set_cons_zero]; go_big_quiet_on) | go_big_quiet_step (fail))); (refine wpQuiet_nil ?_); intro _ hw'; obtain ⟨⟨dq, osq⟩, hw''⟩ := hw'; (subst hw''); replace H := H.next (below_regrown _ dq osq)
  go_wp2_with (first | go_skip | (refine gate_load _ _ rfl ?_; first | (refine wpList_mload1 rfl _ _ rfl _ _ rfl 0 H _ (.bool _) rfl rfl (by decide +kernel) ?_) | (refine wpList_mload1 rfl _ _ rfl _ _ rfl 1 H _ (.bool _) rfl rfl (by decide +kernel) ?_)) | (refine gate_store _ _ _ rfl ?_; (first | (refine wpList_mstore rfl _ _ _ rfl rfl _ _ rfl 1 H _ _ rfl (.int _ _) rfl (by kernel_rfl) (of_decide_eq_true (by kernel_rfl)) (by kernel_rfl) (by first | with_reducible exact st_Ad _ _) ?_) | (refine wpList_mstore rfl _ _ _ rfl rfl _ _ rfl 1 H _ _ rfl (.bool _) rfl (by kernel_rfl) (of_decide_eq_true (by kernel_rfl)) (by kernel_rfl) (by first | with_reducible exact st_AdS _ _) ?_)); clear H; intro w1 H; simp only [List.set_cons_zero, List.set_cons_succ] at H) | fail)
  (try simp only [IntKind.wrap_u16, IntKind.wrap_u8] at H)
  all_goals (first | refine fall rfl rfl ?_ | refine fallr rfl rfl ?_)
  all_goals (refine ⟨rfl, ?_⟩; first | (refine (H.only (i := 1) rfl).asW ?_; clear H; simp_all [IntKind.wrap_u16, IntKind.wrap_u8, Wk.uA, Wk.uX, Wk.uY, Wk.uS, Wk.uSV, Wk.uF, Wk.uPC, Wk.uPCS, Wk.uOp, Wk.uT, Wk.uAd, Wk.uAdS, Wk.uD, Wk.uCr, Wk.uIntr, Wk.uNmi, Wk.uGot, Wk.uPend, Wk.uCtl, Wk.uJam, Wk.uNx, Wk.uIs, doM, onW, keepW, jumpW, pushedW, pulledW, addW, reachW, begunW, beginW, branchW, aimW, crossW, loadA, loadX, loadY, flagW, cmpW, endW, hearW, turnW]; done))

set_option maxHeartbeats 2000000 in
theorem addx_ct (s : Wk) (F : Fiw s) : CM 139 s (addW s s.xv s.xb) := by
  intro R T w hR
  have FF := F
  obtain ⟨⟨a0, a1, x0, x1, y0, y1, s0, s1, p0, p1, q0, q1, cp, cq, pc0, pc1, op0, op1, ad0, ad1, d0, d1⟩, v0, v1⟩ := F
  have F := FF
  clear cp cq FF
  have HZB := Lib.hid alloc_by
  have HZU := Lib.hid alloc_bus
  have H := Mem.begin hR
  clear hR
  go_enter Tryz.func139, Tryz.ntmps139
  go_wp2_with (first | (go_at_call 179; obtain ⟨T0, hT⟩ := H.get (i := 0) rfl; (with_reducible refine Calls.mono (add_ct _ _ _ F (by assumption) (by assumption) _ _ _ hT) ?_); rintro e w2 ⟨rfl, hm⟩; replace H := H.call (i := 0) rfl hm; clear hm hT; simp only [List.set_cons_zero, List.set_cons_succ] at H) | go_skip | (refine gate_load _ _ rfl ?_; first | (refine wpList_mload rfl 23 _ rfl _ _ rfl 0 H _ #[.int .u8 _, .bool _] rfl (by decide +kernel) (by kernel_rfl) (part2 rfl rfl) ?_)) | fail)
  (try simp only [IntKind.wrap_u16, IntKind.wrap_u8] at H)
  all_goals (first | refine fall rfl rfl ?_ | refine fallr rfl rfl ?_)
  all_goals (refine ⟨rfl, ?_⟩; first | exact H.only (i := 0) rfl)

set_option maxHeartbeats 2000000 in
theorem addy_ct (s : Wk) (F : Fiw s) : CM 140 s (addW s s.yv s.yb) := by
  intro R T w hR
  have FF := F
  obtain ⟨⟨a0, a1, x0, x1, y0, y1, s0, s1, p0, p1, q0, q1, cp, cq, pc0, pc1, op0, op1, ad0, ad1, d0, d1⟩, v0, v1⟩ := F
  have F := FF
  clear cp cq FF
  have HZB := Lib.hid alloc_by
  have HZU := Lib.hid alloc_bus
  have H := Mem.begin hR
  clear hR
  go_enter Tryz.func140, Tryz.ntmps140
  go_wp2_with (first | (go_at_call 179; obtain ⟨T0, hT⟩ := H.get (i := 0) rfl; (with_reducible refine Calls.mono (add_ct _ _ _ F (by assumption) (by assumption) _ _ _ hT) ?_); rintro e w2 ⟨rfl, hm⟩; replace H := H.call (i := 0) rfl hm; clear hm hT; simp only [List.set_cons_zero, List.set_cons_succ] at H) | go_skip | (refine gate_load _ _ rfl ?_; first | (refine wpList_mload rfl 23 _ rfl _ _ rfl 0 H _ #[.int .u8 _, .bool _] rfl (by decide +kernel) (by kernel_rfl) (part2 rfl rfl) ?_)) | fail)
  (try simp only [IntKind.wrap_u16, IntKind.wrap_u8] at H)
  all_goals (first | refine fall rfl rfl ?_ | refine fallr rfl rfl ?_)
  all_goals (refine ⟨rfl, ?_⟩; first | exact H.only (i := 0) rfl)

end Go.Proofs.YtbonamhinnhlnaaGreatDoor
namespace Go.Proofs.YtbonamhinnhlnaaGreatDoor
open Go.RowKit
set_option linter.unusedSimpArgs false
set_option linter.unusedVariables false
set_option maxRecDepth 20000

theorem Mem.newIn {n : Nat} {X : List Nat} {w0 w : World} {l : List (Nat × Array Value)} {c : Bool} {x : Nat × Array Value} (h : Mem n X w0 w (cond c (x :: l) l)) (cs : Array Value) (T : TypeId) : Mem n X w0 (w.alloc (.cells cs T)) (cond c (x :: (w.heap.size, cs) :: l) ((w.heap.size, cs) :: l)) := by
  cases c
  · exact Mem.new h cs T
  · have := Mem.new h cs T
    refine ⟨this.os, this.tape, this.output, this.size, this.base, this.block, fun y hy => this.row y ?_, fun y hy => this.mine y ?_, ?_⟩
    · simp only [cond_true, List.mem_cons] at hy ⊢
      rcases hy with h | h | h
      · exact .inr (.inl h)
      · exact .inl h
      · exact .inr (.inr h)
    · simp only [cond_true, List.mem_cons] at hy ⊢
      rcases hy with h | h | h
      · exact .inr (.inl h)
      · exact .inl h
      · exact .inr (.inr h)
    · have hn := this.nodup
      simp only [cond_true, List.map_cons, List.nodup_cons, List.mem_cons, not_or] at hn ⊢
      exact ⟨⟨fun e => hn.1.1 e.symm, hn.2.1⟩, hn.1.2, hn.2.2⟩
set_option maxHeartbeats 2000000 in
theorem reach_ct (s : Wk) (v : Int) (b : Bool) (F : Fiw s) (g0 : 0 ≤ v) (g1 : v < 256) : CB 180 s (reachW s v b) v b := by
  intro R T w hR
  have hv : IntKind.u8.wrap (s.dv + v) = (s.dv + v) % 256 := IntKind.wrap_u8 _
  obtain ⟨⟨a0, a1, x0, x1, y0, y1, s0, s1, p0, p1, q0, q1, cp, cq, pc0, pc1, op0, op1, ad0, ad1, d0, d1⟩, v0, v1⟩ := F
  clear cp cq
  have HZB := Lib.hid alloc_by
  have HZU := Lib.hid alloc_bus
  have H := Mem.begin hR
  clear hR
  have MR1 : True := trivial
  go_enter Tryz.func180, Tryz.ntmps180
  go_wp2_with (first | (refine wpList_mboxA rfl _ _ rfl H _ rfl ?_; clear H; (first | (clear MR1; intro R1 w1 _ H))) | go_skip | fail)
  (try simp only [Act.put, List.setIfInBounds_toArray, List.set_cons_succ, List.set_cons_zero])
  refine wp_region_x (by kernel_rfl) (by kernel_rfl) [(some 5, fun _ => .pointer (some ⟨R, 0, none⟩)), (some 6, fun _ => .pointer (some ⟨R, 0, none⟩)), (some 7, fun _ => .pointer (some ⟨R, 0, none⟩)), (some 8, fun _ => .pointer (some ⟨R, 16, none⟩)), (some 9, fun _ => .pointer (some ⟨R, 16, none⟩)), (some 10, fun _ => .int .u8 ((s).dv)), (some 11, fun _ => .pointer (some ⟨R1, 0, none⟩)), (some 12, fun _ => .int .u8 (v)), (some 13, fun _ => .int .u8 ((s.dv + v) % 256)), (some 14, fun _ => .pointer (some ⟨R, 0, none⟩)), (some 15, fun _ => .pointer (some ⟨R, 0, none⟩)), (some 16, fun _ => .pointer (some ⟨R, 0, none⟩)), (some 17, fun _ => .pointer (some ⟨R, 16, none⟩)), (some 18, fun _ => .agg #[.int .u8 ((s).dv), .bool ((s).db)]), (some 19, fun _ => .agg #[.int .u8 (v), .bool (b)]), (some 20, fun R => .slice (some ⟨R, 0, none⟩) 2 2), (some 21, fun _ => .agg #[.int .u8 ((s.dv + v) % 256), .bool (s.db || b)]), (some 4, fun R => .pointer (some ⟨R, 0, none⟩)), (none, fun _ => undef)] (fun D bq w => Mem _ _ _ w (cond (D 17) ((bq 17, cond (D 18) #[.int .u8 ((s.dv + v) % 256), .bool (s.db || b)] (#[.int .u8 (0), .bool (false)])) :: (cond (D 15) ((bq 15, #[.int .u8 (s.dv), .bool (s.db), .int .u8 (v), .bool (b)]) :: [(R1, #[.int .u8 (v), .bool (b)]), (R, wkC (s))]) [(R1, #[.int .u8 (v), .bool (b)]), (R, wkC (s))])) (cond (D 15) ((bq 15, #[.int .u8 (s.dv), .bool (s.db), .int .u8 (v), .bool (b)]) :: [(R1, #[.int .u8 (v), .bool (b)]), (R, wkC (s))]) [(R1, #[.int .u8 (v), .bool (b)]), (R, wkC (s))]))) 48 (by rfl) (by rfl) (by rfl) H.drew ⟨⟨rfl, ?p0⟩, ⟨rfl, ?p1⟩, ⟨rfl, ?p2⟩, ⟨rfl, ?p3⟩, ⟨rfl, ?p4⟩, ⟨rfl, ?p5⟩, ⟨rfl, ?p6⟩, ⟨rfl, ?p7⟩, ⟨rfl, ?p8⟩, ⟨rfl, ?p9⟩, ⟨rfl, ?p10⟩, ⟨rfl, ?p11⟩, ⟨rfl, ?p12⟩, ⟨rfl, ?p13⟩, ⟨rfl, ?p14⟩, ⟨rfl, ?p15⟩, ⟨rfl, ?p16⟩, ⟨rfl, ?p17⟩, ⟨rfl, ?p18⟩, trivial⟩ ?_
  case p0 =>
    intro D bq a' w' hk hc he hl hW
    (try dsimp only at hW)
    have f0 : a'.tmps.getD 0 undef = .pointer (some ⟨R, 0, none⟩) := (hl 0).trans ((vsx_no rfl).trans rfl)
    exact wp_val (.pointer (some ⟨R, 0, none⟩)) (by simp only [execOp, Act.eval, List.map_toArray, List.map_cons, List.map_nil]; rw [f0]; kernel_rfl) ⟨0, rfl, hW⟩
  case p1 =>
    intro D bq a' w' hk hc he hl hW
    (try dsimp only at hW)
    have e0 : a'.tmps.getD 5 undef = .pointer (some ⟨R, 0, none⟩) := (hl 5).trans (vsx_at (f := fun _ => .pointer (some ⟨R, 0, none⟩)) rfl (he ⟨0, .data⟩ (by simp) rfl) rfl)
    exact wp_val (.pointer (some ⟨R, 0, none⟩)) (by simp only [execOp, Act.eval, List.map_toArray, List.map_cons, List.map_nil]; rw [e0]; kernel_rfl) ⟨0, rfl, hW⟩
  case p2 =>
    intro D bq a' w' hk hc he hl hW
    (try dsimp only at hW)
    have e1 : a'.tmps.getD 6 undef = .pointer (some ⟨R, 0, none⟩) := (hl 6).trans (vsx_at (f := fun _ => .pointer (some ⟨R, 0, none⟩)) rfl (he ⟨1, .data⟩ (by simp) rfl) rfl)
    exact wp_val (.pointer (some ⟨R, 0, none⟩)) (by simp only [execOp, Act.eval, List.map_toArray, List.map_cons, List.map_nil]; rw [e1]; kernel_rfl) ⟨0, rfl, hW⟩
  case p3 =>
    intro D bq a' w' hk hc he hl hW
    (try dsimp only at hW)
    have e2 : a'.tmps.getD 7 undef = .pointer (some ⟨R, 0, none⟩) := (hl 7).trans (vsx_at (f := fun _ => .pointer (some ⟨R, 0, none⟩)) rfl (he ⟨2, .data⟩ (by simp) rfl) rfl)
    exact wp_val (.pointer (some ⟨R, 16, none⟩)) (by simp only [execOp, Act.eval, List.map_toArray, List.map_cons, List.map_nil]; rw [e2]; kernel_rfl) ⟨0, rfl, hW⟩
  case p4 =>
    intro D bq a' w' hk hc he hl hW
    (try dsimp only at hW)
    have e3 : a'.tmps.getD 8 undef = .pointer (some ⟨R, 16, none⟩) := (hl 8).trans (vsx_at (f := fun _ => .pointer (some ⟨R, 16, none⟩)) rfl (he ⟨3, .data⟩ (by simp) rfl) rfl)
    exact wp_val (.pointer (some ⟨R, 16, none⟩)) (by simp only [execOp, Act.eval, List.map_toArray, List.map_cons, List.map_nil]; rw [e3]; kernel_rfl) ⟨0, rfl, hW⟩
  case p5 =>
    intro D bq a' w' hk hc he hl hW
    (try dsimp only at hW)
    have e4 : a'.tmps.getD 9 undef = .pointer (some ⟨R, 16, none⟩) := (hl 9).trans (vsx_at (f := fun _ => .pointer (some ⟨R, 16, none⟩)) rfl (he ⟨4, .data⟩ (by simp) rfl) rfl)
    have hM := Mem.condB (Mem.condB hW)
    exact wp_sload1 _ _ rfl _ _ e4 1 hM (wkC (s)) (.int .u8 ((s).dv)) rfl rfl (by decide +kernel) ⟨0, rfl, hW⟩
  case p6 =>
    intro D bq a' w' hk hc he hl hW
    (try dsimp only at hW)
    have f3 : a'.tmps.getD 3 undef = .pointer (some ⟨R1, 0, none⟩) := (hl 3).trans ((vsx_no rfl).trans rfl)
    exact wp_val (.pointer (some ⟨R1, 0, none⟩)) (by simp only [execOp, Act.eval, List.map_toArray, List.map_cons, List.map_nil]; rw [f3]; kernel_rfl) ⟨0, rfl, hW⟩
  case p7 =>
    intro D bq a' w' hk hc he hl hW
    (try dsimp only at hW)
    have e6 : a'.tmps.getD 11 undef = .pointer (some ⟨R1, 0, none⟩) := (hl 11).trans (vsx_at (f := fun _ => .pointer (some ⟨R1, 0, none⟩)) rfl (he ⟨6, .data⟩ (by simp) rfl) rfl)
    have hM := Mem.condB (Mem.condB hW)
    exact wp_sload1 _ _ rfl _ _ e6 0 hM (#[.int .u8 (v), .bool (b)]) (.int .u8 (v)) rfl rfl (by decide +kernel) ⟨0, rfl, hW⟩
  case p8 =>
    intro D bq a' w' hk hc he hl hW
    (try dsimp only at hW)
    have e5 : a'.tmps.getD 10 undef = .int .u8 ((s).dv) := (hl 10).trans (vsx_at (f := fun _ => .int .u8 ((s).dv)) rfl (he ⟨5, .data⟩ (by simp) rfl) rfl)
    have e7 : a'.tmps.getD 12 undef = .int .u8 (v) := (hl 12).trans (vsx_at (f := fun _ => .int .u8 (v)) rfl (he ⟨7, .data⟩ (by simp) rfl) rfl)
    exact wp_val (.int .u8 ((s.dv + v) % 256)) (by rw [← hv]; simp only [execOp, Act.eval, List.map_toArray, List.map_cons, List.map_nil]; rw [e5, e7]; kernel_rfl) ⟨0, rfl, hW⟩
  case p9 =>
    intro D bq a' w' hk hc he hl hW
    (try dsimp only at hW)
    have f0 : a'.tmps.getD 0 undef = .pointer (some ⟨R, 0, none⟩) := (hl 0).trans ((vsx_no rfl).trans rfl)
    exact wp_val (.pointer (some ⟨R, 0, none⟩)) (by simp only [execOp, Act.eval, List.map_toArray, List.map_cons, List.map_nil]; rw [f0]; kernel_rfl) ⟨0, rfl, hW⟩
  case p10 =>
    intro D bq a' w' hk hc he hl hW
    (try dsimp only at hW)
    have e9 : a'.tmps.getD 14 undef = .pointer (some ⟨R, 0, none⟩) := (hl 14).trans (vsx_at (f := fun _ => .pointer (some ⟨R, 0, none⟩)) rfl (he ⟨9, .data⟩ (by simp) rfl) rfl)
    exact wp_val (.pointer (some ⟨R, 0, none⟩)) (by simp only [execOp, Act.eval, List.map_toArray, List.map_cons, List.map_nil]; rw [e9]; kernel_rfl) ⟨0, rfl, hW⟩
  case p11 =>
    intro D bq a' w' hk hc he hl hW
    (try dsimp only at hW)
    have e10 : a'.tmps.getD 15 undef = .pointer (some ⟨R, 0, none⟩) := (hl 15).trans (vsx_at (f := fun _ => .pointer (some ⟨R, 0, none⟩)) rfl (he ⟨10, .data⟩ (by simp) rfl) rfl)
    exact wp_val (.pointer (some ⟨R, 0, none⟩)) (by simp only [execOp, Act.eval, List.map_toArray, List.map_cons, List.map_nil]; rw [e10]; kernel_rfl) ⟨0, rfl, hW⟩
  case p12 =>
    intro D bq a' w' hk hc he hl hW
    (try dsimp only at hW)
    have e11 : a'.tmps.getD 16 undef = .pointer (some ⟨R, 0, none⟩) := (hl 16).trans (vsx_at (f := fun _ => .pointer (some ⟨R, 0, none⟩)) rfl (he ⟨11, .data⟩ (by simp) rfl) rfl)
    exact wp_val (.pointer (some ⟨R, 16, none⟩)) (by simp only [execOp, Act.eval, List.map_toArray, List.map_cons, List.map_nil]; rw [e11]; kernel_rfl) ⟨0, rfl, hW⟩
  case p13 =>
    intro D bq a' w' hk hc he hl hW
    (try dsimp only at hW)
    have e12 : a'.tmps.getD 17 undef = .pointer (some ⟨R, 16, none⟩) := (hl 17).trans (vsx_at (f := fun _ => .pointer (some ⟨R, 16, none⟩)) rfl (he ⟨12, .data⟩ (by simp) rfl) rfl)
    have hM := Mem.condB (Mem.condB hW)
    exact wp_sload _ _ rfl _ _ e12 1 hM (wkC (s)) (#[.int .u8 ((s).dv), .bool ((s).db)]) rfl (by kernel_rfl) (by kernel_rfl) (part2 rfl rfl) ⟨0, rfl, hW⟩
  case p14 =>
    intro D bq a' w' hk hc he hl hW
    (try dsimp only at hW)
    have f3 : a'.tmps.getD 3 undef = .pointer (some ⟨R1, 0, none⟩) := (hl 3).trans ((vsx_no rfl).trans rfl)
    have hM := Mem.condB (Mem.condB hW)
    exact wp_sload _ _ rfl _ _ f3 0 hM (#[.int .u8 (v), .bool (b)]) (#[.int .u8 (v), .bool (b)]) rfl (by kernel_rfl) (by kernel_rfl) (part2 rfl rfl) ⟨0, rfl, hW⟩
  case p15 =>
    intro D bq a' w' hk hc he hl hW
    (try dsimp only at hW)
    have e13 : a'.tmps.getD 18 undef = .agg #[.int .u8 ((s).dv), .bool ((s).db)] := (hl 18).trans (vsx_at (f := fun _ => .agg #[.int .u8 ((s).dv), .bool ((s).db)]) rfl (he ⟨13, .data⟩ (by simp) rfl) rfl)
    have e14 : a'.tmps.getD 19 undef = .agg #[.int .u8 (v), .bool (b)] := (hl 19).trans (vsx_at (f := fun _ => .agg #[.int .u8 (v), .bool (b)]) rfl (he ⟨14, .data⟩ (by simp) rfl) rfl)
    have n18 : D 18 = false := hc.no .phase hk rfl (by simp) rfl
    have hM := hW
    simp only [hk, n18, cond_false] at hM
    have hA := fun T => Mem.newIn hM #[.int .u8 (s.dv), .bool (s.db), .int .u8 (v), .bool (b)] T
    refine wp_row _ _ _ rfl _ (by simp only [List.map_toArray, List.map_cons, List.map_nil, Act.eval, e13, e14]) _ _ (build_by2 (s.dv) (s.db) (v) (b)) ⟨_, rfl, ?_⟩
    (try dsimp only)
    have z18 : doneB D 15 18 = false := n18
    simp only [z18, cond_false]
    exact hA _
  case p16 =>
    intro D bq a' w' hk hc he hl hW
    (try dsimp only at hW)
    have e8 : a'.tmps.getD 13 undef = .int .u8 ((s.dv + v) % 256) := (hl 13).trans (vsx_at (f := fun _ => .int .u8 ((s.dv + v) % 256)) rfl (he ⟨8, .data⟩ (by simp) rfl) rfl)
    have e15 : a'.tmps.getD 20 undef = .slice (some ⟨bq 15, 0, none⟩) 2 2 := (hl 20).trans (vsx_at (f := fun R => .slice (some ⟨R, 0, none⟩) 2 2) rfl (he ⟨15, .data⟩ (by simp) rfl) rfl)
    have y15 : D 15 = true := he ⟨15, .data⟩ (by simp) rfl
    have hR := Mem.ofT y15 (Mem.condB hW)
    refine wp_callp (vals := #[.int .u8 ((s.dv + v) % 256), .slice (some ⟨bq 15, 0, none⟩) 2 2]) rfl rfl (by simp only [List.map_toArray, List.map_cons, List.map_nil, Act.eval, e8, e15]) (by kernel_rfl) (of2_ct _ _ _ _ _ hR 0 rfl) ?_
    rintro e w2 ⟨rfl, hB⟩
    exact ⟨_, rfl, 0, rfl, Mem.next hW hB⟩
  case p17 =>
    intro D bq a' w' hk hc he hl hW
    (try dsimp only at hW)
    have n18 : D 18 = false := hc.no .data hk rfl (by simp) rfl
    have hM := Mem.ofF hk hW
    have hA := fun T => Mem.new hM #[.int .u8 (0), .bool (false)] T
    refine wp_alx _ rfl _ alloc_by ?_
    refine ⟨_, rfl, ?_⟩
    (try dsimp only)
    have z18 : doneB D 17 18 = false := n18
    simp only [z18, cond_false]
    exact hA _
  case p18 =>
    intro D bq a' w' hk hc he hl hW
    (try dsimp only at hW)
    have e17 : a'.tmps.getD 4 undef = .pointer (some ⟨bq 17, 0, none⟩) := (hl 4).trans (vsx_at (f := fun R => .pointer (some ⟨R, 0, none⟩)) rfl (he ⟨17, .data⟩ (by simp) rfl) rfl)
    have e16 : a'.tmps.getD 21 undef = .agg #[.int .u8 ((s.dv + v) % 256), .bool (s.db || b)] := (hl 21).trans (vsx_at (f := fun _ => .agg #[.int .u8 ((s.dv + v) % 256), .bool (s.db || b)]) rfl (he ⟨16, .data⟩ (by simp) rfl) rfl)
    have y15 : D 15 = true := he ⟨15, .phase⟩ (by simp) rfl
    have y17 : D 17 = true := he ⟨17, .data⟩ (by simp) rfl
    have hM := hW
    simp only [hk, y15, y17, cond_false, cond_true] at hM
    refine wp_sstoreA _ _ _ rfl rfl (bq 17) e17 0 hM #[.int .u8 (0), .bool (false)] #[.int .u8 ((s.dv + v) % 256), .bool (s.db || b)] rfl e16 (by kernel_rfl) (by rfl) (by kernel_rfl) fun w1 hM1 => ⟨0, rfl, ?_⟩
    (try dsimp only)
    have z15 : doneB D 18 15 = true := y15
    have z17 : doneB D 18 17 = true := y17
    simp only [z15, z17, cond_true]
    exact hM1
  intro D bq w' hD hW
  (try dsimp only at hW)
  simp only [hD 15 (by decide), hD 17 (by decide), hD 18 (by decide), cond_true] at hW
  clear H hD
  have H := hW
  clear hW
  simp only [putAll, vsOf, Nat.reduceAdd, List.foldl_cons, List.foldl_nil, Act.put, List.setIfInBounds_toArray, List.set_cons_succ, List.set_cons_zero]
  generalize bq 15 = R3 at *
  generalize bq 17 = R2 at *
  go_wp2_with (first | go_skip | (refine gate_load _ _ rfl ?_; first | (refine wpList_mload1 rfl _ _ rfl _ _ rfl 0 H _ (.int _ _) rfl rfl (by decide +kernel) ?_) | (refine wpList_mload1 rfl _ _ rfl _ _ rfl 2 H _ (.int _ _) rfl rfl (by decide +kernel) ?_)) | (refine gate_store _ _ _ rfl ?_; (first | (refine wpList_mstore rfl _ _ _ rfl rfl _ _ rfl 3 H _ _ rfl (.bool _) rfl (by kernel_rfl) (of_decide_eq_true (by kernel_rfl)) (by kernel_rfl) (by first | with_reducible exact st_Cr _ _) ?_)); clear H; intro w1 H; simp only [List.set_cons_zero, List.set_cons_succ] at H) | fail)
  (try simp only [Act.put, List.setIfInBounds_toArray, List.set_cons_succ, List.set_cons_zero])
  refine wp_region_x (by kernel_rfl) (by kernel_rfl) [(some 32, fun _ => .pointer (some ⟨R, 0, none⟩)), (some 33, fun _ => .pointer (some ⟨R, 0, none⟩)), (some 34, fun _ => .agg #[.int .u8 ((s.dv + v) % 256), .bool (s.db || b)]), (some 35, fun _ => .pointer (some ⟨R, 0, none⟩)), (some 36, fun _ => .pointer (some ⟨R, 0, none⟩)), (some 37, fun _ => .pointer (some ⟨R, 31, none⟩)), (some 38, fun _ => .agg #[.int .u8 (((s).uCr (decide ((s.dv + v) % 256 < v))).v), .bool (((s).uCr (decide ((s.dv + v) % 256 < v))).vb)]), (some 39, fun _ => .tuple #[.int .u16 (((s.dv + v) % 256) + 256 * (((s).uCr (decide ((s.dv + v) % 256 < v))).v)), .bool ((s.db || b) || (((s).uCr (decide ((s.dv + v) % 256 < v))).vb))]), (some 31, fun _ => .tuple #[.int .u16 (((s.dv + v) % 256) + 256 * (((s).uCr (decide ((s.dv + v) % 256 < v))).v)), .bool ((s.db || b) || (((s).uCr (decide ((s.dv + v) % 256 < v))).vb))]), (some 40, fun _ => .int .u16 (((s.dv + v) % 256) + 256 * (((s).uCr (decide ((s.dv + v) % 256 < v))).v))), (some 41, fun _ => .bool ((s.db || b) || (((s).uCr (decide ((s.dv + v) % 256 < v))).vb))), (some 42, fun _ => .pointer (some ⟨R, 0, none⟩)), (some 43, fun _ => .pointer (some ⟨R, 0, none⟩)), (some 44, fun _ => .pointer (some ⟨R, 14, none⟩)), (none, fun _ => undef), (some 45, fun _ => .pointer (some ⟨R, 0, none⟩)), (some 46, fun _ => .pointer (some ⟨R, 0, none⟩)), (some 47, fun _ => .pointer (some ⟨R, 15, none⟩)), (none, fun _ => undef)] (fun D bq w => Mem _ _ _ w ([(R2, #[.int .u8 ((s.dv + v) % 256), .bool (s.db || b)]), (R3, #[.int .u8 (s.dv), .bool (s.db), .int .u8 (v), .bool (b)]), (R1, #[.int .u8 (v), .bool (b)]), (R, cond (D 18) (wkC ((((s).uCr (decide ((s.dv + v) % 256 < v))).uAd (((s.dv + v) % 256) + 256 * (((s).uCr (decide ((s.dv + v) % 256 < v))).v))).uAdS ((s.db || b) || (((s).uCr (decide ((s.dv + v) % 256 < v))).vb)))) (cond (D 14) (wkC (((s).uCr (decide ((s.dv + v) % 256 < v))).uAd (((s.dv + v) % 256) + 256 * (((s).uCr (decide ((s.dv + v) % 256 < v))).v)))) (wkC ((s).uCr (decide ((s.dv + v) % 256 < v))))))])) 48 (by rfl) (by rfl) (by rfl) H.drew ⟨⟨rfl, ?p0⟩, ⟨rfl, ?p1⟩, ⟨rfl, ?p2⟩, ⟨rfl, ?p3⟩, ⟨rfl, ?p4⟩, ⟨rfl, ?p5⟩, ⟨rfl, ?p6⟩, ⟨rfl, ?p7⟩, ⟨rfl, ?p8⟩, ⟨rfl, ?p9⟩, ⟨rfl, ?p10⟩, ⟨rfl, ?p11⟩, ⟨rfl, ?p12⟩, ⟨rfl, ?p13⟩, ⟨rfl, ?p14⟩, ⟨rfl, ?p15⟩, ⟨rfl, ?p16⟩, ⟨rfl, ?p17⟩, ⟨rfl, ?p18⟩, trivial⟩ ?_
  case p0 =>
    intro D bq a' w' hk hc he hl hW
    (try dsimp only at hW)
    have f0 : a'.tmps.getD 0 undef = .pointer (some ⟨R, 0, none⟩) := (hl 0).trans ((vsx_no rfl).trans rfl)
    exact wp_val (.pointer (some ⟨R, 0, none⟩)) (by simp only [execOp, Act.eval, List.map_toArray, List.map_cons, List.map_nil]; rw [f0]; kernel_rfl) ⟨0, rfl, hW⟩
  case p1 =>
    intro D bq a' w' hk hc he hl hW
    (try dsimp only at hW)
    have f0 : a'.tmps.getD 0 undef = .pointer (some ⟨R, 0, none⟩) := (hl 0).trans ((vsx_no rfl).trans rfl)
    exact wp_val (.pointer (some ⟨R, 0, none⟩)) (by simp only [execOp, Act.eval, List.map_toArray, List.map_cons, List.map_nil]; rw [f0]; kernel_rfl) ⟨0, rfl, hW⟩
  case p2 =>
    intro D bq a' w' hk hc he hl hW
    (try dsimp only at hW)
    have f4 : a'.tmps.getD 4 undef = .pointer (some ⟨R2, 0, none⟩) := (hl 4).trans ((vsx_no rfl).trans rfl)
    have hM := hW
    exact wp_sload _ _ rfl _ _ f4 0 hM (#[.int .u8 ((s.dv + v) % 256), .bool (s.db || b)]) (#[.int .u8 ((s.dv + v) % 256), .bool (s.db || b)]) rfl (by kernel_rfl) (by kernel_rfl) (part2 rfl rfl) ⟨0, rfl, hW⟩
  case p3 =>
    intro D bq a' w' hk hc he hl hW
    (try dsimp only at hW)
    have f0 : a'.tmps.getD 0 undef = .pointer (some ⟨R, 0, none⟩) := (hl 0).trans ((vsx_no rfl).trans rfl)
    exact wp_val (.pointer (some ⟨R, 0, none⟩)) (by simp only [execOp, Act.eval, List.map_toArray, List.map_cons, List.map_nil]; rw [f0]; kernel_rfl) ⟨0, rfl, hW⟩
  case p4 =>
    intro D bq a' w' hk hc he hl hW
    (try dsimp only at hW)
    have e3 : a'.tmps.getD 35 undef = .pointer (some ⟨R, 0, none⟩) := (hl 35).trans (vsx_at (f := fun _ => .pointer (some ⟨R, 0, none⟩)) rfl (he ⟨3, .data⟩ (by simp) rfl) rfl)
    exact wp_val (.pointer (some ⟨R, 0, none⟩)) (by simp only [execOp, Act.eval, List.map_toArray, List.map_cons, List.map_nil]; rw [e3]; kernel_rfl) ⟨0, rfl, hW⟩
  case p5 =>
    intro D bq a' w' hk hc he hl hW
    (try dsimp only at hW)
    have e4 : a'.tmps.getD 36 undef = .pointer (some ⟨R, 0, none⟩) := (hl 36).trans (vsx_at (f := fun _ => .pointer (some ⟨R, 0, none⟩)) rfl (he ⟨4, .data⟩ (by simp) rfl) rfl)
    exact wp_val (.pointer (some ⟨R, 31, none⟩)) (by simp only [execOp, Act.eval, List.map_toArray, List.map_cons, List.map_nil]; rw [e4]; kernel_rfl) ⟨0, rfl, hW⟩
  case p6 =>
    intro D bq a' w' hk hc he hl hW
    (try dsimp only at hW)
    have e5 : a'.tmps.getD 37 undef = .pointer (some ⟨R, 31, none⟩) := (hl 37).trans (vsx_at (f := fun _ => .pointer (some ⟨R, 31, none⟩)) rfl (he ⟨5, .data⟩ (by simp) rfl) rfl)
    have n14 : D 14 = false := hc.no .phase hk rfl (by simp) rfl
    have n18 : D 18 = false := hc.no .phase hk rfl (by simp) rfl
    have hM := hW
    simp only [hk, n14, n18, cond_false, cond_true] at hM
    exact wp_sload _ _ rfl _ _ e5 3 hM (wkC ((s).uCr (decide ((s.dv + v) % 256 < v)))) (#[.int .u8 (((s).uCr (decide ((s.dv + v) % 256 < v))).v), .bool (((s).uCr (decide ((s.dv + v) % 256 < v))).vb)]) rfl (by kernel_rfl) (by kernel_rfl) (part2 rfl rfl) ⟨0, rfl, hW⟩
  case p7 =>
    intro D bq a' w' hk hc he hl hW
    (try dsimp only at hW)
    have e2 : a'.tmps.getD 34 undef = .agg #[.int .u8 ((s.dv + v) % 256), .bool (s.db || b)] := (hl 34).trans (vsx_at (f := fun _ => .agg #[.int .u8 ((s.dv + v) % 256), .bool (s.db || b)]) rfl (he ⟨2, .data⟩ (by simp) rfl) rfl)
    have e6 : a'.tmps.getD 38 undef = .agg #[.int .u8 (((s).uCr (decide ((s.dv + v) % 256 < v))).v), .bool (((s).uCr (decide ((s.dv + v) % 256 < v))).vb)] := (hl 38).trans (vsx_at (f := fun _ => .agg #[.int .u8 (((s).uCr (decide ((s.dv + v) % 256 < v))).v), .bool (((s).uCr (decide ((s.dv + v) % 256 < v))).vb)]) rfl (he ⟨6, .data⟩ (by simp) rfl) rfl)
    refine wp_callp (vals := #[.agg #[.int .u8 ((s.dv + v) % 256), .bool (s.db || b)], .agg #[.int .u8 (((s).uCr (decide ((s.dv + v) % 256 < v))).v), .bool (((s).uCr (decide ((s.dv + v) % 256 < v))).vb)]]) rfl rfl (by simp only [List.map_toArray, List.map_cons, List.map_nil, Act.eval, e2, e6]) (by kernel_rfl) (word_ct ((s.dv + v) % 256) (((s).uCr (decide ((s.dv + v) % 256 < v))).v) (s.db || b) (((s).uCr (decide ((s.dv + v) % 256 < v))).vb) w' (by first | assumption | decide | omega) (by first | assumption | decide | omega) (by first | assumption | decide | omega) (by first | assumption | decide | omega)) ?_
    rintro e w2 ⟨rfl, hB⟩
    exact ⟨_, rfl, 0, rfl, Mem.next hW hB⟩
  case p8 =>
    intro D bq a' w' hk hc he hl hW
    (try dsimp only at hW)
    have e7 : a'.tmps.getD 39 undef = .tuple #[.int .u16 (((s.dv + v) % 256) + 256 * (((s).uCr (decide ((s.dv + v) % 256 < v))).v)), .bool ((s.db || b) || (((s).uCr (decide ((s.dv + v) % 256 < v))).vb))] := (hl 39).trans (vsx_at (f := fun _ => .tuple #[.int .u16 (((s.dv + v) % 256) + 256 * (((s).uCr (decide ((s.dv + v) % 256 < v))).v)), .bool ((s.db || b) || (((s).uCr (decide ((s.dv + v) % 256 < v))).vb))]) rfl (he ⟨7, .data⟩ (by simp) rfl) rfl)
    exact wp_val (.tuple #[.int .u16 (((s.dv + v) % 256) + 256 * (((s).uCr (decide ((s.dv + v) % 256 < v))).v)), .bool ((s.db || b) || (((s).uCr (decide ((s.dv + v) % 256 < v))).vb))]) (by simp only [execOp, Act.eval, List.map_toArray, List.map_cons, List.map_nil]; rw [e7]; kernel_rfl) ⟨0, rfl, hW⟩
  case p9 =>
    intro D bq a' w' hk hc he hl hW
    (try dsimp only at hW)
    have e8 : a'.tmps.getD 31 undef = .tuple #[.int .u16 (((s.dv + v) % 256) + 256 * (((s).uCr (decide ((s.dv + v) % 256 < v))).v)), .bool ((s.db || b) || (((s).uCr (decide ((s.dv + v) % 256 < v))).vb))] := (hl 31).trans (vsx_at (f := fun _ => .tuple #[.int .u16 (((s.dv + v) % 256) + 256 * (((s).uCr (decide ((s.dv + v) % 256 < v))).v)), .bool ((s.db || b) || (((s).uCr (decide ((s.dv + v) % 256 < v))).vb))]) rfl (he ⟨8, .data⟩ (by simp) rfl) rfl)
    exact wp_val (.int .u16 (((s.dv + v) % 256) + 256 * (((s).uCr (decide ((s.dv + v) % 256 < v))).v))) (by simp only [execOp, Act.eval, List.map_toArray, List.map_cons, List.map_nil]; rw [e8]; kernel_rfl) ⟨0, rfl, hW⟩
  case p10 =>
    intro D bq a' w' hk hc he hl hW
    (try dsimp only at hW)
    have e8 : a'.tmps.getD 31 undef = .tuple #[.int .u16 (((s.dv + v) % 256) + 256 * (((s).uCr (decide ((s.dv + v) % 256 < v))).v)), .bool ((s.db || b) || (((s).uCr (decide ((s.dv + v) % 256 < v))).vb))] := (hl 31).trans (vsx_at (f := fun _ => .tuple #[.int .u16 (((s.dv + v) % 256) + 256 * (((s).uCr (decide ((s.dv + v) % 256 < v))).v)), .bool ((s.db || b) || (((s).uCr (decide ((s.dv + v) % 256 < v))).vb))]) rfl (he ⟨8, .data⟩ (by simp) rfl) rfl)
    exact wp_val (.bool ((s.db || b) || (((s).uCr (decide ((s.dv + v) % 256 < v))).vb))) (by simp only [execOp, Act.eval, List.map_toArray, List.map_cons, List.map_nil]; rw [e8]; kernel_rfl) ⟨0, rfl, hW⟩
  case p11 =>
    intro D bq a' w' hk hc he hl hW
    (try dsimp only at hW)
    have e0 : a'.tmps.getD 32 undef = .pointer (some ⟨R, 0, none⟩) := (hl 32).trans (vsx_at (f := fun _ => .pointer (some ⟨R, 0, none⟩)) rfl (he ⟨0, .data⟩ (by simp) rfl) rfl)
    exact wp_val (.pointer (some ⟨R, 0, none⟩)) (by simp only [execOp, Act.eval, List.map_toArray, List.map_cons, List.map_nil]; rw [e0]; kernel_rfl) ⟨0, rfl, hW⟩
  case p12 =>
    intro D bq a' w' hk hc he hl hW
    (try dsimp only at hW)
    have e11 : a'.tmps.getD 42 undef = .pointer (some ⟨R, 0, none⟩) := (hl 42).trans (vsx_at (f := fun _ => .pointer (some ⟨R, 0, none⟩)) rfl (he ⟨11, .data⟩ (by simp) rfl) rfl)
    exact wp_val (.pointer (some ⟨R, 0, none⟩)) (by simp only [execOp, Act.eval, List.map_toArray, List.map_cons, List.map_nil]; rw [e11]; kernel_rfl) ⟨0, rfl, hW⟩
  case p13 =>
    intro D bq a' w' hk hc he hl hW
    (try dsimp only at hW)
    have e12 : a'.tmps.getD 43 undef = .pointer (some ⟨R, 0, none⟩) := (hl 43).trans (vsx_at (f := fun _ => .pointer (some ⟨R, 0, none⟩)) rfl (he ⟨12, .data⟩ (by simp) rfl) rfl)
    exact wp_val (.pointer (some ⟨R, 14, none⟩)) (by simp only [execOp, Act.eval, List.map_toArray, List.map_cons, List.map_nil]; rw [e12]; kernel_rfl) ⟨0, rfl, hW⟩
  case p14 =>
    intro D bq a' w' hk hc he hl hW
    (try dsimp only at hW)
    have e13 : a'.tmps.getD 44 undef = .pointer (some ⟨R, 14, none⟩) := (hl 44).trans (vsx_at (f := fun _ => .pointer (some ⟨R, 14, none⟩)) rfl (he ⟨13, .data⟩ (by simp) rfl) rfl)
    have e9 : a'.tmps.getD 40 undef = .int .u16 (((s.dv + v) % 256) + 256 * (((s).uCr (decide ((s.dv + v) % 256 < v))).v)) := (hl 40).trans (vsx_at (f := fun _ => .int .u16 (((s.dv + v) % 256) + 256 * (((s).uCr (decide ((s.dv + v) % 256 < v))).v))) rfl (he ⟨9, .data⟩ (by simp) rfl) rfl)
    have n18 : D 18 = false := hc.no .chain hk rfl (by simp) rfl
    have hM := hW
    simp only [hk, n18, cond_false, cond_true] at hM
    refine wp_sstore1 _ _ _ rfl rfl R 14 e13 3 hM (wkC ((s).uCr (decide ((s.dv + v) % 256 < v)))) (wkC (((s).uCr (decide ((s.dv + v) % 256 < v))).uAd (((s.dv + v) % 256) + 256 * (((s).uCr (decide ((s.dv + v) % 256 < v))).v)))) rfl (.int .u16 (((s.dv + v) % 256) + 256 * (((s).uCr (decide ((s.dv + v) % 256 < v))).v))) e9 (by kernel_rfl) (of_decide_eq_true (by kernel_rfl)) (by kernel_rfl) (st_Ad _ _) fun w1 hM1 => ⟨0, rfl, ?_⟩
    (try dsimp only)
    have z18 : doneB D 14 18 = false := n18
    simp only [z18, cond_false]
    exact hM1
  case p15 =>
    intro D bq a' w' hk hc he hl hW
    (try dsimp only at hW)
    have e1 : a'.tmps.getD 33 undef = .pointer (some ⟨R, 0, none⟩) := (hl 33).trans (vsx_at (f := fun _ => .pointer (some ⟨R, 0, none⟩)) rfl (he ⟨1, .data⟩ (by simp) rfl) rfl)
    exact wp_val (.pointer (some ⟨R, 0, none⟩)) (by simp only [execOp, Act.eval, List.map_toArray, List.map_cons, List.map_nil]; rw [e1]; kernel_rfl) ⟨0, rfl, hW⟩
  case p16 =>
    intro D bq a' w' hk hc he hl hW
    (try dsimp only at hW)
    have e15 : a'.tmps.getD 45 undef = .pointer (some ⟨R, 0, none⟩) := (hl 45).trans (vsx_at (f := fun _ => .pointer (some ⟨R, 0, none⟩)) rfl (he ⟨15, .data⟩ (by simp) rfl) rfl)
    exact wp_val (.pointer (some ⟨R, 0, none⟩)) (by simp only [execOp, Act.eval, List.map_toArray, List.map_cons, List.map_nil]; rw [e15]; kernel_rfl) ⟨0, rfl, hW⟩
  case p17 =>
    intro D bq a' w' hk hc he hl hW
    (try dsimp only at hW)
    have e16 : a'.tmps.getD 46 undef = .pointer (some ⟨R, 0, none⟩) := (hl 46).trans (vsx_at (f := fun _ => .pointer (some ⟨R, 0, none⟩)) rfl (he ⟨16, .data⟩ (by simp) rfl) rfl)
    exact wp_val (.pointer (some ⟨R, 15, none⟩)) (by simp only [execOp, Act.eval, List.map_toArray, List.map_cons, List.map_nil]; rw [e16]; kernel_rfl) ⟨0, rfl, hW⟩
  case p18 =>
    intro D bq a' w' hk hc he hl hW
    (try dsimp only at hW)
    have e17 : a'.tmps.getD 47 undef = .pointer (some ⟨R, 15, none⟩) := (hl 47).trans (vsx_at (f := fun _ => .pointer (some ⟨R, 15, none⟩)) rfl (he ⟨17, .data⟩ (by simp) rfl) rfl)
    have e10 : a'.tmps.getD 41 undef = .bool ((s.db || b) || (((s).uCr (decide ((s.dv + v) % 256 < v))).vb)) := (hl 41).trans (vsx_at (f := fun _ => .bool ((s.db || b) || (((s).uCr (decide ((s.dv + v) % 256 < v))).vb))) rfl (he ⟨10, .data⟩ (by simp) rfl) rfl)
    have y14 : D 14 = true := he ⟨14, .chain⟩ (by simp) rfl
    have hM := hW
    simp only [hk, y14, cond_false, cond_true] at hM
    refine wp_sstore1 _ _ _ rfl rfl R 15 e17 3 hM (wkC (((s).uCr (decide ((s.dv + v) % 256 < v))).uAd (((s.dv + v) % 256) + 256 * (((s).uCr (decide ((s.dv + v) % 256 < v))).v)))) (wkC ((((s).uCr (decide ((s.dv + v) % 256 < v))).uAd (((s.dv + v) % 256) + 256 * (((s).uCr (decide ((s.dv + v) % 256 < v))).v))).uAdS ((s.db || b) || (((s).uCr (decide ((s.dv + v) % 256 < v))).vb)))) rfl (.bool ((s.db || b) || (((s).uCr (decide ((s.dv + v) % 256 < v))).vb))) e10 (by kernel_rfl) (of_decide_eq_true (by kernel_rfl)) (by kernel_rfl) (st_AdS _ _) fun w1 hM1 => ⟨0, rfl, ?_⟩
    exact hM1
  intro D bq w' hD hW
  (try dsimp only at hW)
  simp only [hD 14 (by decide), hD 18 (by decide), cond_true] at hW
  clear H hD
  have H := hW
  clear hW
  simp only [putAll, vsOf, Nat.reduceAdd, List.foldl_cons, List.foldl_nil, Act.put, List.setIfInBounds_toArray, List.set_cons_succ, List.set_cons_zero]
  (try simp only [IntKind.wrap_u16, IntKind.wrap_u8] at H)
  all_goals (first | refine fall rfl rfl ?_ | refine fallr rfl rfl ?_)
  all_goals (refine ⟨rfl, ?_⟩; first | exact H.only (i := 3) rfl)

set_option maxHeartbeats 2000000 in
theorem reachx_ct (s : Wk) (F : Fiw s) : CM 141 s (onW (reachW s s.xv s.xb)) := by
  intro R T w hR
  have FF := F
  obtain ⟨⟨a0, a1, x0, x1, y0, y1, s0, s1, p0, p1, q0, q1, cp, cq, pc0, pc1, op0, op1, ad0, ad1, d0, d1⟩, v0, v1⟩ := F
  have F := FF
  clear cp cq FF
  have HZB := Lib.hid alloc_by
  have HZU := Lib.hid alloc_bus
  have H := Mem.begin hR
  clear hR
  go_enter Tryz.func141, Tryz.ntmps141
  go_wp2_with (first | (go_at_call 180; obtain ⟨T0, hT⟩ := H.get (i := 0) rfl; (with_reducible refine Calls.mono (reach_ct _ _ _ F (by assumption) (by assumption) _ _ _ hT) ?_); rintro e w2 ⟨rfl, hm⟩; replace H := H.call (i := 0) rfl hm; clear hm hT; simp only [List.set_cons_zero, List.set_cons_succ] at H) | (go_at_call 118; obtain ⟨T0, hT⟩ := H.get (i := 0) rfl; (with_reducible refine Calls.mono (on_ct _ _ _ _ hT) ?_); rintro e w2 ⟨rfl, hm⟩; replace H := H.call (i := 0) rfl hm; clear hm hT; simp only [List.set_cons_zero, List.set_cons_succ] at H) | go_skip | (refine gate_load _ _ rfl ?_; first | (refine wpList_mload rfl 23 _ rfl _ _ rfl 0 H _ #[.int .u8 _, .bool _] rfl (by decide +kernel) (by kernel_rfl) (part2 rfl rfl) ?_)) | fail)
  (try simp only [IntKind.wrap_u16, IntKind.wrap_u8] at H)
  all_goals (first | refine fall rfl rfl ?_ | refine fallr rfl rfl ?_)
  all_goals (refine ⟨rfl, ?_⟩; first | exact H.only (i := 0) rfl)

set_option maxHeartbeats 2000000 in
theorem reachy_ct (s : Wk) (F : Fiw s) : CM 143 s (onW (reachW s s.yv s.yb)) := by
  intro R T w hR
  have FF := F
  obtain ⟨⟨a0, a1, x0, x1, y0, y1, s0, s1, p0, p1, q0, q1, cp, cq, pc0, pc1, op0, op1, ad0, ad1, d0, d1⟩, v0, v1⟩ := F
  have F := FF
  clear cp cq FF
  have HZB := Lib.hid alloc_by
  have HZU := Lib.hid alloc_bus
  have H := Mem.begin hR
  clear hR
  go_enter Tryz.func143, Tryz.ntmps143
  go_wp2_with (first | (go_at_call 180; obtain ⟨T0, hT⟩ := H.get (i := 0) rfl; (with_reducible refine Calls.mono (reach_ct _ _ _ F (by assumption) (by assumption) _ _ _ hT) ?_); rintro e w2 ⟨rfl, hm⟩; replace H := H.call (i := 0) rfl hm; clear hm hT; simp only [List.set_cons_zero, List.set_cons_succ] at H) | (go_at_call 118; obtain ⟨T0, hT⟩ := H.get (i := 0) rfl; (with_reducible refine Calls.mono (on_ct _ _ _ _ hT) ?_); rintro e w2 ⟨rfl, hm⟩; replace H := H.call (i := 0) rfl hm; clear hm hT; simp only [List.set_cons_zero, List.set_cons_succ] at H) | go_skip | (refine gate_load _ _ rfl ?_; first | (refine wpList_mload rfl 23 _ rfl _ _ rfl 0 H _ #[.int .u8 _, .bool _] rfl (by decide +kernel) (by kernel_rfl) (part2 rfl rfl) ?_)) | fail)
  (try simp only [IntKind.wrap_u16, IntKind.wrap_u8] at H)
  all_goals (first | refine fall rfl rfl ?_ | refine fallr rfl rfl ?_)
  all_goals (refine ⟨rfl, ?_⟩; first | exact H.only (i := 0) rfl)

end Go.Proofs.YtbonamhinnhlnaaGreatDoor
