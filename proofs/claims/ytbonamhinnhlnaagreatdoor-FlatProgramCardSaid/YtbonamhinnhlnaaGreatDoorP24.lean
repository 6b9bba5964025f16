/-
  Several texts in one: what is read and written by the functions on the way to the statements. Conditions stand in each theorem.
-/
import Derived.Test.YtbonamhinnhlnaaGreatDoorP18
import Derived.Test.YtbonamhinnhlnaaGreatDoorP14
namespace Go.Proofs.YtbonamhinnhlnaaGreatDoor
open Go.RowKit
set_option linter.unusedSimpArgs false
set_option linter.unusedVariables false
set_option maxRecDepth 20000

theorem or16 (a b : Int) (h0 : 0 ≤ a) (h1 : a < 65536) (g0 : 0 ≤ b) (g1 : b < 256) (hm : a % 256 = 0) : bits .or .u16 a b = a + b := by
  have := or_add b (a / 256) g0 g1 (by omega) (by omega)
  rw [or_comm16 _ _ g0 (by omega) (by omega) (by omega)] at this
  rw [show a / 256 * 256 = a by omega] at this
  rw [this]
  omega
theorem keep_page (n m : Int) (h0 : 0 ≤ n) (h1 : n < 65536) (g0 : 0 ≤ m) (g1 : m < 256) : bits .or .u16 (bits .and .u16 n 65280) m = n / 256 * 256 + m := by
  have e : bits .and .u16 n 65280 = n / 256 * 256 := high16 n 65280 8 16 256 (by decide) (by decide) (by decide) h0 (by simpa using h1)
  rw [e, or16 _ _ (by omega) (by omega) g0 g1 (by omega)]
theorem low_page (n : Int) (h0 : 0 ≤ n) (h1 : n < 65536) : bits .and .u16 n 255 = n % 256 := low16 n 255 8 256 (by decide) (by decide) h0 h1
theorem aim_to (p d : Int) (d0 : 0 ≤ d) (d1 : d < 256) : IntKind.u16.wrap (p + IntKind.u16.wrap (IntKind.i8.wrap d)) = (p + (if d < 128 then d else d + 65280)) % 65536 := by
  have e : IntKind.u16.wrap (IntKind.i8.wrap d) = if d < 128 then d else d + 65280 := byte_all (p := fun d => IntKind.u16.wrap (IntKind.i8.wrap d) = if d < 128 then d else d + 65280) (by decide +kernel) d d0 d1
  rw [e, IntKind.wrap_u16]
set_option maxHeartbeats 2000000 in
theorem keeppage_ct (s : Wk) (F : Fiw s) : CM 106 s (doM .keepInPage s) := by
  intro R T w hR
  have FF := F
  obtain ⟨⟨a0, a1, x0, x1, y0, y1, s0, s1, p0, p1, q0, q1, cp, cq, pc0, pc1, op0, op1, ad0, ad1, d0, d1⟩, v0, v1⟩ := F
  have F := FF
  clear cp cq FF
  have HZB := Lib.hid alloc_by
  have HZU := Lib.hid alloc_bus
  have H := Mem.begin hR
  clear hR
  go_enter Tryz.func106, Tryz.ntmps106
  go_wp2_with (first | (go_at_call 121; obtain ⟨T0, hT⟩ := H.get (i := 0) rfl; (with_reducible refine Calls.mono (keep_ct _ _ _ _ hT) ?_); rintro e w2 ⟨rfl, hm⟩; replace H := H.call (i := 0) rfl hm; clear hm hT; simp only [List.set_cons_zero, List.set_cons_succ] at H) | go_skip | fail)
  (try simp only [Act.put, List.setIfInBounds_toArray, List.set_cons_succ, List.set_cons_zero])
  (refine wp_region_tails_below 16 (by kernel_rfl) (by kernel_rfl) ?_); (simp only [List.take_succ_cons, List.take_zero, List.drop_succ_cons, List.drop_zero]); (repeat (first | (go_big_quiet_want; refine gate_qload _ _ rfl ?_; (first | (refine quiet_mload1 _ _ rfl _ _ rfl 0 H _ (.int _ _) rfl rfl (by decide +kernel) ?_)); simp only [Act.put, List.setIfInBounds_toArray, List.set_cons_succ, List.set_cons_zero]; go_big_quiet_on) | go_big_quiet_step (fail))); (refine wpQuiet_nil ?_); intro _ hw'; obtain ⟨⟨dq, osq⟩, hw''⟩ := hw'; (subst hw''); replace H := H.next (below_regrown _ dq osq)
  go_wp2_with (first | go_skip | (refine gate_store _ _ _ rfl ?_; (first | (refine wpList_mstore rfl _ _ _ rfl rfl _ _ rfl 0 H _ _ rfl (.int _ _) rfl (by kernel_rfl) (of_decide_eq_true (by kernel_rfl)) (by kernel_rfl) (by first | with_reducible exact st_Ad _ _) ?_)); clear H; intro w1 H; simp only [List.set_cons_zero, List.set_cons_succ] at H) | fail)
  rw [show (keepW s).ad = s.ad from rfl, keep_page _ _ ad0 ad1 (mod8_le _).1 (mod8_le _).2] at H
  (try simp only [IntKind.wrap_u16, IntKind.wrap_u8] at H)
  all_goals (first | refine fall rfl rfl ?_ | refine fallr rfl rfl ?_)
  all_goals (refine ⟨rfl, ?_⟩; first | exact H.only (i := 0) rfl)

set_option maxHeartbeats 2000000 in
theorem point_ct (s : Wk) (F : Fiw s) : CM 145 s (doM .point s) := by
  intro R T w hR
  have FF := F
  obtain ⟨⟨a0, a1, x0, x1, y0, y1, s0, s1, p0, p1, q0, q1, cp, cq, pc0, pc1, op0, op1, ad0, ad1, d0, d1⟩, v0, v1⟩ := F
  have F := FF
  clear cp cq FF
  have HZB := Lib.hid alloc_by
  have HZU := Lib.hid alloc_bus
  have H := Mem.begin hR
  clear hR
  go_enter Tryz.func145, Tryz.ntmps145
  go_wp2_with (first | go_skip | (refine gate_load _ _ rfl ?_; first | (refine wpList_mload1 rfl _ _ rfl _ _ rfl 0 H _ (.bool _) rfl rfl (by decide +kernel) ?_)) | fail)
  (try simp only [Act.put, List.setIfInBounds_toArray, List.set_cons_succ, List.set_cons_zero])
  refine wp_region_x (by kernel_rfl) (by kernel_rfl) [(some 9, fun _ => .pointer (some ⟨R, 0, none⟩)), (some 10, fun _ => .pointer (some ⟨R, 0, none⟩)), (some 11, fun _ => .pointer (some ⟨R, 0, none⟩)), (some 12, fun _ => .pointer (some ⟨R, 0, none⟩)), (some 13, fun _ => .pointer (some ⟨R, 0, none⟩)), (some 14, fun _ => .pointer (some ⟨R, 16, none⟩)), (some 15, fun _ => .agg #[.int .u8 ((s).dv), .bool ((s).db)]), (some 16, fun _ => .pointer (some ⟨R, 0, none⟩)), (some 17, fun _ => .pointer (some ⟨R, 0, none⟩)), (some 18, fun _ => .pointer (some ⟨R, 31, none⟩)), (some 19, fun _ => .agg #[.int .u8 ((s).v), .bool ((s).vb)]), (some 20, fun _ => .tuple #[.int .u16 (((s).dv) + 256 * ((s).v)), .bool (((s).db) || ((s).vb))]), (some 8, fun _ => .tuple #[.int .u16 (((s).dv) + 256 * ((s).v)), .bool (((s).db) || ((s).vb))]), (some 21, fun _ => .int .u16 (((s).dv) + 256 * ((s).v))), (some 22, fun _ => .bool (((s).db) || ((s).vb))), (some 23, fun _ => .pointer (some ⟨R, 0, none⟩)), (some 24, fun _ => .pointer (some ⟨R, 0, none⟩)), (some 25, fun _ => .pointer (some ⟨R, 14, none⟩)), (none, fun _ => undef), (some 26, fun _ => .pointer (some ⟨R, 0, none⟩)), (some 27, fun _ => .pointer (some ⟨R, 0, none⟩)), (some 28, fun _ => .pointer (some ⟨R, 15, none⟩)), (none, fun _ => undef)] (fun D bq w => Mem _ _ _ w ([(R, cond (D 22) (wkC (((s).uAd (((s).dv) + 256 * ((s).v))).uAdS (((s).db) || ((s).vb)))) (cond (D 18) (wkC ((s).uAd (((s).dv) + 256 * ((s).v)))) (wkC (s))))])) 41 (by rfl) (by rfl) (by rfl) H.drew ⟨⟨rfl, ?p0⟩, ⟨rfl, ?p1⟩, ⟨rfl, ?p2⟩, ⟨rfl, ?p3⟩, ⟨rfl, ?p4⟩, ⟨rfl, ?p5⟩, ⟨rfl, ?p6⟩, ⟨rfl, ?p7⟩, ⟨rfl, ?p8⟩, ⟨rfl, ?p9⟩, ⟨rfl, ?p10⟩, ⟨rfl, ?p11⟩, ⟨rfl, ?p12⟩, ⟨rfl, ?p13⟩, ⟨rfl, ?p14⟩, ⟨rfl, ?p15⟩, ⟨rfl, ?p16⟩, ⟨rfl, ?p17⟩, ⟨rfl, ?p18⟩, ⟨rfl, ?p19⟩, ⟨rfl, ?p20⟩, ⟨rfl, ?p21⟩, ⟨rfl, ?p22⟩, trivial⟩ ?_
  case p0 =>
    intro D bq a' w' hk hc he hl hW
    (try dsimp only at hW)
    have f0 : a'.tmps.getD 0 undef = .pointer (some ⟨R, 0, none⟩) := (hl 0).trans ((vsx_no rfl).trans rfl)
    exact wp_val (.pointer (some ⟨R, 0, none⟩)) (by simp only [execOp, Act.eval, List.map_toArray, List.map_cons, List.map_nil]; rw [f0]; kernel_rfl) ⟨0, rfl, hW⟩
  case p1 =>
    intro D bq a' w' hk hc he hl hW
    (try dsimp only at hW)
    have f0 : a'.tmps.getD 0 undef = .pointer (some ⟨R, 0, none⟩) := (hl 0).trans ((vsx_no rfl).trans rfl)
    exact wp_val (.pointer (some ⟨R, 0, none⟩)) (by simp only [execOp, Act.eval, List.map_toArray, List.map_cons, List.map_nil]; rw [f0]; kernel_rfl) ⟨0, rfl, hW⟩
  case p2 =>
    intro D bq a' w' hk hc he hl hW
    (try dsimp only at hW)
    have f0 : a'.tmps.getD 0 undef = .pointer (some ⟨R, 0, none⟩) := (hl 0).trans ((vsx_no rfl).trans rfl)
    exact wp_val (.pointer (some ⟨R, 0, none⟩)) (by simp only [execOp, Act.eval, List.map_toArray, List.map_cons, List.map_nil]; rw [f0]; kernel_rfl) ⟨0, rfl, hW⟩
  case p3 =>
    intro D bq a' w' hk hc he hl hW
    (try dsimp only at hW)
    have e2 : a'.tmps.getD 11 undef = .pointer (some ⟨R, 0, none⟩) := (hl 11).trans (vsx_at (f := fun _ => .pointer (some ⟨R, 0, none⟩)) rfl (he ⟨2, .data⟩ (by simp) rfl) rfl)
    exact wp_val (.pointer (some ⟨R, 0, none⟩)) (by simp only [execOp, Act.eval, List.map_toArray, List.map_cons, List.map_nil]; rw [e2]; kernel_rfl) ⟨0, rfl, hW⟩
  case p4 =>
    intro D bq a' w' hk hc he hl hW
    (try dsimp only at hW)
    have e3 : a'.tmps.getD 12 undef = .pointer (some ⟨R, 0, none⟩) := (hl 12).trans (vsx_at (f := fun _ => .pointer (some ⟨R, 0, none⟩)) rfl (he ⟨3, .data⟩ (by simp) rfl) rfl)
    exact wp_val (.pointer (some ⟨R, 0, none⟩)) (by simp only [execOp, Act.eval, List.map_toArray, List.map_cons, List.map_nil]; rw [e3]; kernel_rfl) ⟨0, rfl, hW⟩
  case p5 =>
    intro D bq a' w' hk hc he hl hW
    (try dsimp only at hW)
    have e4 : a'.tmps.getD 13 undef = .pointer (some ⟨R, 0, none⟩) := (hl 13).trans (vsx_at (f := fun _ => .pointer (some ⟨R, 0, none⟩)) rfl (he ⟨4, .data⟩ (by simp) rfl) rfl)
    exact wp_val (.pointer (some ⟨R, 16, none⟩)) (by simp only [execOp, Act.eval, List.map_toArray, List.map_cons, List.map_nil]; rw [e4]; kernel_rfl) ⟨0, rfl, hW⟩
  case p6 =>
    intro D bq a' w' hk hc he hl hW
    (try dsimp only at hW)
    have e5 : a'.tmps.getD 14 undef = .pointer (some ⟨R, 16, none⟩) := (hl 14).trans (vsx_at (f := fun _ => .pointer (some ⟨R, 16, none⟩)) rfl (he ⟨5, .data⟩ (by simp) rfl) rfl)
    have n18 : D 18 = false := hc.no .phase hk rfl (by simp) rfl
    have n22 : D 22 = false := hc.no .phase hk rfl (by simp) rfl
    have hM := hW
    simp only [hk, n18, n22, cond_false, cond_true] at hM
    exact wp_sload _ _ rfl _ _ e5 0 hM (wkC (s)) (#[.int .u8 ((s).dv), .bool ((s).db)]) rfl (by kernel_rfl) (by kernel_rfl) (part2 rfl rfl) ⟨0, rfl, hW⟩
  case p7 =>
    intro D bq a' w' hk hc he hl hW
    (try dsimp only at hW)
    have f0 : a'.tmps.getD 0 undef = .pointer (some ⟨R, 0, none⟩) := (hl 0).trans ((vsx_no rfl).trans rfl)
    exact wp_val (.pointer (some ⟨R, 0, none⟩)) (by simp only [execOp, Act.eval, List.map_toArray, List.map_cons, List.map_nil]; rw [f0]; kernel_rfl) ⟨0, rfl, hW⟩
  case p8 =>
    intro D bq a' w' hk hc he hl hW
    (try dsimp only at hW)
    have e7 : a'.tmps.getD 16 undef = .pointer (some ⟨R, 0, none⟩) := (hl 16).trans (vsx_at (f := fun _ => .pointer (some ⟨R, 0, none⟩)) rfl (he ⟨7, .data⟩ (by simp) rfl) rfl)
    exact wp_val (.pointer (some ⟨R, 0, none⟩)) (by simp only [execOp, Act.eval, List.map_toArray, List.map_cons, List.map_nil]; rw [e7]; kernel_rfl) ⟨0, rfl, hW⟩
  case p9 =>
    intro D bq a' w' hk hc he hl hW
    (try dsimp only at hW)
    have e8 : a'.tmps.getD 17 undef = .pointer (some ⟨R, 0, none⟩) := (hl 17).trans (vsx_at (f := fun _ => .pointer (some ⟨R, 0, none⟩)) rfl (he ⟨8, .data⟩ (by simp) rfl) rfl)
    exact wp_val (.pointer (some ⟨R, 31, none⟩)) (by simp only [execOp, Act.eval, List.map_toArray, List.map_cons, List.map_nil]; rw [e8]; kernel_rfl) ⟨0, rfl, hW⟩
  case p10 =>
    intro D bq a' w' hk hc he hl hW
    (try dsimp only at hW)
    have e9 : a'.tmps.getD 18 undef = .pointer (some ⟨R, 31, none⟩) := (hl 18).trans (vsx_at (f := fun _ => .pointer (some ⟨R, 31, none⟩)) rfl (he ⟨9, .data⟩ (by simp) rfl) rfl)
    have n18 : D 18 = false := hc.no .phase hk rfl (by simp) rfl
    have n22 : D 22 = false := hc.no .phase hk rfl (by simp) rfl
    have hM := hW
    simp only [hk, n18, n22, cond_false, cond_true] at hM
    exact wp_sload _ _ rfl _ _ e9 0 hM (wkC (s)) (#[.int .u8 ((s).v), .bool ((s).vb)]) rfl (by kernel_rfl) (by kernel_rfl) (part2 rfl rfl) ⟨0, rfl, hW⟩
  case p11 =>
    intro D bq a' w' hk hc he hl hW
    (try dsimp only at hW)
    have e6 : a'.tmps.getD 15 undef = .agg #[.int .u8 ((s).dv), .bool ((s).db)] := (hl 15).trans (vsx_at (f := fun _ => .agg #[.int .u8 ((s).dv), .bool ((s).db)]) rfl (he ⟨6, .data⟩ (by simp) rfl) rfl)
    have e10 : a'.tmps.getD 19 undef = .agg #[.int .u8 ((s).v), .bool ((s).vb)] := (hl 19).trans (vsx_at (f := fun _ => .agg #[.int .u8 ((s).v), .bool ((s).vb)]) rfl (he ⟨10, .data⟩ (by simp) rfl) rfl)
    refine wp_callp (vals := #[.agg #[.int .u8 ((s).dv), .bool ((s).db)], .agg #[.int .u8 ((s).v), .bool ((s).vb)]]) rfl rfl (by simp only [List.map_toArray, List.map_cons, List.map_nil, Act.eval, e6, e10]) (by kernel_rfl) (word_ct ((s).dv) ((s).v) ((s).db) ((s).vb) w' (by first | assumption | decide | omega) (by first | assumption | decide | omega) (by first | assumption | decide | omega) (by first | assumption | decide | omega)) ?_
    rintro e w2 ⟨rfl, hB⟩
    exact ⟨_, rfl, 0, rfl, Mem.next hW hB⟩
  case p12 =>
    intro D bq a' w' hk hc he hl hW
    (try dsimp only at hW)
    have e11 : a'.tmps.getD 20 undef = .tuple #[.int .u16 (((s).dv) + 256 * ((s).v)), .bool (((s).db) || ((s).vb))] := (hl 20).trans (vsx_at (f := fun _ => .tuple #[.int .u16 (((s).dv) + 256 * ((s).v)), .bool (((s).db) || ((s).vb))]) rfl (he ⟨11, .data⟩ (by simp) rfl) rfl)
    exact wp_val (.tuple #[.int .u16 (((s).dv) + 256 * ((s).v)), .bool (((s).db) || ((s).vb))]) (by simp only [execOp, Act.eval, List.map_toArray, List.map_cons, List.map_nil]; rw [e11]; kernel_rfl) ⟨0, rfl, hW⟩
  case p13 =>
    intro D bq a' w' hk hc he hl hW
    (try dsimp only at hW)
    have e12 : a'.tmps.getD 8 undef = .tuple #[.int .u16 (((s).dv) + 256 * ((s).v)), .bool (((s).db) || ((s).vb))] := (hl 8).trans (vsx_at (f := fun _ => .tuple #[.int .u16 (((s).dv) + 256 * ((s).v)), .bool (((s).db) || ((s).vb))]) rfl (he ⟨12, .data⟩ (by simp) rfl) rfl)
    exact wp_val (.int .u16 (((s).dv) + 256 * ((s).v))) (by simp only [execOp, Act.eval, List.map_toArray, List.map_cons, List.map_nil]; rw [e12]; kernel_rfl) ⟨0, rfl, hW⟩
  case p14 =>
    intro D bq a' w' hk hc he hl hW
    (try dsimp only at hW)
    have e12 : a'.tmps.getD 8 undef = .tuple #[.int .u16 (((s).dv) + 256 * ((s).v)), .bool (((s).db) || ((s).vb))] := (hl 8).trans (vsx_at (f := fun _ => .tuple #[.int .u16 (((s).dv) + 256 * ((s).v)), .bool (((s).db) || ((s).vb))]) rfl (he ⟨12, .data⟩ (by simp) rfl) rfl)
    exact wp_val (.bool (((s).db) || ((s).vb))) (by simp only [execOp, Act.eval, List.map_toArray, List.map_cons, List.map_nil]; rw [e12]; kernel_rfl) ⟨0, rfl, hW⟩
  case p15 =>
    intro D bq a' w' hk hc he hl hW
    (try dsimp only at hW)
    have e0 : a'.tmps.getD 9 undef = .pointer (some ⟨R, 0, none⟩) := (hl 9).trans (vsx_at (f := fun _ => .pointer (some ⟨R, 0, none⟩)) rfl (he ⟨0, .data⟩ (by simp) rfl) rfl)
    exact wp_val (.pointer (some ⟨R, 0, none⟩)) (by simp only [execOp, Act.eval, List.map_toArray, List.map_cons, List.map_nil]; rw [e0]; kernel_rfl) ⟨0, rfl, hW⟩
  case p16 =>
    intro D bq a' w' hk hc he hl hW
    (try dsimp only at hW)
    have e15 : a'.tmps.getD 23 undef = .pointer (some ⟨R, 0, none⟩) := (hl 23).trans (vsx_at (f := fun _ => .pointer (some ⟨R, 0, none⟩)) rfl (he ⟨15, .data⟩ (by simp) rfl) rfl)
    exact wp_val (.pointer (some ⟨R, 0, none⟩)) (by simp only [execOp, Act.eval, List.map_toArray, List.map_cons, List.map_nil]; rw [e15]; kernel_rfl) ⟨0, rfl, hW⟩
  case p17 =>
    intro D bq a' w' hk hc he hl hW
    (try dsimp only at hW)
    have e16 : a'.tmps.getD 24 undef = .pointer (some ⟨R, 0, none⟩) := (hl 24).trans (vsx_at (f := fun _ => .pointer (some ⟨R, 0, none⟩)) rfl (he ⟨16, .data⟩ (by simp) rfl) rfl)
    exact wp_val (.pointer (some ⟨R, 14, none⟩)) (by simp only [execOp, Act.eval, List.map_toArray, List.map_cons, List.map_nil]; rw [e16]; kernel_rfl) ⟨0, rfl, hW⟩
  case p18 =>
    intro D bq a' w' hk hc he hl hW
    (try dsimp only at hW)
    have e17 : a'.tmps.getD 25 undef = .pointer (some ⟨R, 14, none⟩) := (hl 25).trans (vsx_at (f := fun _ => .pointer (some ⟨R, 14, none⟩)) rfl (he ⟨17, .data⟩ (by simp) rfl) rfl)
    have e13 : a'.tmps.getD 21 undef = .int .u16 (((s).dv) + 256 * ((s).v)) := (hl 21).trans (vsx_at (f := fun _ => .int .u16 (((s).dv) + 256 * ((s).v))) rfl (he ⟨13, .data⟩ (by simp) rfl) rfl)
    have n22 : D 22 = false := hc.no .chain hk rfl (by simp) rfl
    have hM := hW
    simp only [hk, n22, cond_false, cond_true] at hM
    refine wp_sstore1 _ _ _ rfl rfl R 14 e17 0 hM (wkC (s)) (wkC ((s).uAd (((s).dv) + 256 * ((s).v)))) rfl (.int .u16 (((s).dv) + 256 * ((s).v))) e13 (by kernel_rfl) (of_decide_eq_true (by kernel_rfl)) (by kernel_rfl) (st_Ad _ _) fun w1 hM1 => ⟨0, rfl, ?_⟩
    (try dsimp only)
    have z22 : doneB D 18 22 = false := n22
    simp only [z22, cond_false]
    exact hM1
  case p19 =>
    intro D bq a' w' hk hc he hl hW
    (try dsimp only at hW)
    have e1 : a'.tmps.getD 10 undef = .pointer (some ⟨R, 0, none⟩) := (hl 10).trans (vsx_at (f := fun _ => .pointer (some ⟨R, 0, none⟩)) rfl (he ⟨1, .data⟩ (by simp) rfl) rfl)
    exact wp_val (.pointer (some ⟨R, 0, none⟩)) (by simp only [execOp, Act.eval, List.map_toArray, List.map_cons, List.map_nil]; rw [e1]; kernel_rfl) ⟨0, rfl, hW⟩
  case p20 =>
    intro D bq a' w' hk hc he hl hW
    (try dsimp only at hW)
    have e19 : a'.tmps.getD 26 undef = .pointer (some ⟨R, 0, none⟩) := (hl 26).trans (vsx_at (f := fun _ => .pointer (some ⟨R, 0, none⟩)) rfl (he ⟨19, .data⟩ (by simp) rfl) rfl)
    exact wp_val (.pointer (some ⟨R, 0, none⟩)) (by simp only [execOp, Act.eval, List.map_toArray, List.map_cons, List.map_nil]; rw [e19]; kernel_rfl) ⟨0, rfl, hW⟩
  case p21 =>
    intro D bq a' w' hk hc he hl hW
    (try dsimp only at hW)
    have e20 : a'.tmps.getD 27 undef = .pointer (some ⟨R, 0, none⟩) := (hl 27).trans (vsx_at (f := fun _ => .pointer (some ⟨R, 0, none⟩)) rfl (he ⟨20, .data⟩ (by simp) rfl) rfl)
    exact wp_val (.pointer (some ⟨R, 15, none⟩)) (by simp only [execOp, Act.eval, List.map_toArray, List.map_cons, List.map_nil]; rw [e20]; kernel_rfl) ⟨0, rfl, hW⟩
  case p22 =>
    intro D bq a' w' hk hc he hl hW
    (try dsimp only at hW)
    have e21 : a'.tmps.getD 28 undef = .pointer (some ⟨R, 15, none⟩) := (hl 28).trans (vsx_at (f := fun _ => .pointer (some ⟨R, 15, none⟩)) rfl (he ⟨21, .data⟩ (by simp) rfl) rfl)
    have e14 : a'.tmps.getD 22 undef = .bool (((s).db) || ((s).vb)) := (hl 22).trans (vsx_at (f := fun _ => .bool (((s).db) || ((s).vb))) rfl (he ⟨14, .data⟩ (by simp) rfl) rfl)
    have y18 : D 18 = true := he ⟨18, .chain⟩ (by simp) rfl
    have hM := hW
    simp only [hk, y18, cond_false, cond_true] at hM
    refine wp_sstore1 _ _ _ rfl rfl R 15 e21 0 hM (wkC ((s).uAd (((s).dv) + 256 * ((s).v)))) (wkC (((s).uAd (((s).dv) + 256 * ((s).v))).uAdS (((s).db) || ((s).vb)))) rfl (.bool (((s).db) || ((s).vb))) e14 (by kernel_rfl) (of_decide_eq_true (by kernel_rfl)) (by kernel_rfl) (st_AdS _ _) fun w1 hM1 => ⟨0, rfl, ?_⟩
    exact hM1
  intro D bq w' hD hW
  (try dsimp only at hW)
  simp only [hD 18 (by decide), hD 22 (by decide), cond_true] at hW
  clear H hD
  have H := hW
  clear hW
  simp only [putAll, vsOf, Nat.reduceAdd, List.foldl_cons, List.foldl_nil, Act.put, List.setIfInBounds_toArray, List.set_cons_succ, List.set_cons_zero]
  go_wp2_with (first | go_skip | (refine gate_load _ _ rfl ?_; first | (refine wpList_mload1 rfl _ _ rfl _ _ rfl 0 H _ (.bool _) rfl rfl (by decide +kernel) ?_)) | (refine gate_store _ _ _ rfl ?_; (first | (refine wpList_mstore rfl _ _ _ rfl rfl _ _ rfl 0 H _ _ rfl (.bool _) rfl (by kernel_rfl) (of_decide_eq_true (by kernel_rfl)) (by kernel_rfl) (by first | with_reducible exact st_AdS _ _) ?_)); clear H; intro w1 H; simp only [List.set_cons_zero, List.set_cons_succ] at H) | fail)
  (try simp only [IntKind.wrap_u16, IntKind.wrap_u8] at H)
  all_goals (first | refine fall rfl rfl ?_ | refine fallr rfl rfl ?_)
  all_goals (refine ⟨rfl, ?_⟩; first | (refine (H.only (i := 0) rfl).asW ?_; clear H; simp_all [IntKind.wrap_u16, IntKind.wrap_u8, Wk.uA, Wk.uX, Wk.uY, Wk.uS, Wk.uSV, Wk.uF, Wk.uPC, Wk.uPCS, Wk.uOp, Wk.uT, Wk.uAd, Wk.uAdS, Wk.uD, Wk.uCr, Wk.uIntr, Wk.uNmi, Wk.uGot, Wk.uPend, Wk.uCtl, Wk.uJam, Wk.uNx, Wk.uIs, doM, onW, keepW, jumpW, pushedW, pulledW, addW, reachW, begunW, beginW, branchW, aimW, crossW, loadA, loadX, loadY, flagW, cmpW, endW, hearW, turnW]; done))

set_option maxHeartbeats 2000000 in
theorem pointy_ct (s : Wk) (F : Fiw s) : CM 146 s (doM .pointY s) := by
  intro R T w hR
  have FF := F
  obtain ⟨⟨a0, a1, x0, x1, y0, y1, s0, s1, p0, p1, q0, q1, cp, cq, pc0, pc1, op0, op1, ad0, ad1, d0, d1⟩, v0, v1⟩ := F
  have F := FF
  clear cp cq FF
  have HZB := Lib.hid alloc_by
  have HZU := Lib.hid alloc_bus
  have H := Mem.begin hR
  clear hR
  go_enter Tryz.func146, Tryz.ntmps146
  go_wp2_with (first | (go_at_call 180; obtain ⟨T0, hT⟩ := H.get (i := 0) rfl; (with_reducible refine Calls.mono (reach_ct _ _ _ F y0 y1 _ _ _ hT) ?_); rintro e w2 ⟨rfl, hm⟩; replace H := H.call (i := 0) rfl hm; clear hm hT; simp only [List.set_cons_zero, List.set_cons_succ] at H) | go_skip | (refine gate_load _ _ rfl ?_; first | (refine wpList_mload rfl 23 _ rfl _ _ rfl 0 H _ #[.int .u8 _, .bool _] rfl (by decide +kernel) (by kernel_rfl) (part2 rfl rfl) ?_) | (refine wpList_mload1 rfl _ _ rfl _ _ rfl 0 H _ (.bool _) rfl rfl (by decide +kernel) ?_)) | (refine gate_store _ _ _ rfl ?_; (first | (refine wpList_mstore rfl _ _ _ rfl rfl _ _ rfl 0 H _ _ rfl (.bool _) rfl (by kernel_rfl) (of_decide_eq_true (by kernel_rfl)) (by kernel_rfl) (by first | with_reducible exact st_AdS _ _) ?_)); clear H; intro w1 H; simp only [List.set_cons_zero, List.set_cons_succ] at H) | fail)
  (try simp only [IntKind.wrap_u16, IntKind.wrap_u8] at H)
  all_goals (first | refine fall rfl rfl ?_ | refine fallr rfl rfl ?_)
  all_goals (refine ⟨rfl, ?_⟩; first | (refine (H.only (i := 0) rfl).asW ?_; clear H; simp_all [IntKind.wrap_u16, IntKind.wrap_u8, Wk.uA, Wk.uX, Wk.uY, Wk.uS, Wk.uSV, Wk.uF, Wk.uPC, Wk.uPCS, Wk.uOp, Wk.uT, Wk.uAd, Wk.uAdS, Wk.uD, Wk.uCr, Wk.uIntr, Wk.uNmi, Wk.uGot, Wk.uPend, Wk.uCtl, Wk.uJam, Wk.uNx, Wk.uIs, doM, onW, keepW, jumpW, pushedW, pulledW, addW, reachW, begunW, beginW, branchW, aimW, crossW, loadA, loadX, loadY, flagW, cmpW, endW, hearW, turnW]; done))

set_option maxHeartbeats 2000000 in
theorem branch_ct (s : Wk) (F : Fiw s) : CM 100 s (branchW s) := by
  intro R T w hR
  have FF := F
  obtain ⟨⟨a0, a1, x0, x1, y0, y1, s0, s1, p0, p1, q0, q1, cp, cq, pc0, pc1, op0, op1, ad0, ad1, d0, d1⟩, v0, v1⟩ := F
  have F := FF
  clear cp cq FF
  have b0 := (brF_le s.nm).1
  have b1 := (brF_le s.nm).2
  have HZB := Lib.hid alloc_by
  have HZU := Lib.hid alloc_bus
  have H := Mem.begin hR
  clear hR
  go_enter Tryz.func100, Tryz.ntmps100
  go_wp2_with (first | (go_at_call 103; obtain ⟨T0, hT⟩ := H.get (i := 0) rfl; (with_reducible refine Calls.mono (keepon_ct _ _ _ _ hT) ?_); rintro e w2 ⟨rfl, hm⟩; replace H := H.call (i := 0) rfl hm; clear hm hT; simp only [List.set_cons_zero, List.set_cons_succ] at H) | go_skip | fail)
  (try simp only [Act.put, List.setIfInBounds_toArray, List.set_cons_succ, List.set_cons_zero])
  (refine wp_region_mem 43 [⟨8, 9, 99, ptrTo, #[.int .u8 0, .bool false], #[.int .u8 (oneI (hasV s.p (brF s.nm))), .bool (hasV s.ps (brF s.nm))], undef⟩] (by kernel_rfl) (by kernel_rfl) (by rfl) (by kernel_rfl) (fun _ => by kernel_rfl) (by simp) H fun β wy hwy => ?_); have H0 := H; replace H := H.next hwy; (simp only [swapL, swapO, List.find?_cons, List.find?_nil, Nat.reduceBEq, Nat.reduceAdd]); (repeat (first | (go_big_quiet_want; refine gate_qload _ _ rfl ?_; (first | (refine quiet_mload 25 _ rfl _ _ rfl 0 H _ #[.int .u8 _, .int .u8 _] rfl (by decide +kernel) (by kernel_rfl) (part2 rfl rfl) ?_)); simp only [Act.put, List.setIfInBounds_toArray, List.set_cons_succ, List.set_cons_zero]; go_big_quiet_on) | go_big_quiet_step ((first | (go_at_call 85; (with_reducible exact Calls.regrown_of (aget_ct _ _ _ _ (by first | assumption | with_unfolding_all exact p0) (by first | assumption | with_unfolding_all exact p1) (by first | assumption | with_unfolding_all exact q0) (by first | assumption | with_unfolding_all exact q1) (by with_unfolding_all exact b0) (by with_unfolding_all exact b1)))) | (go_at_call 119; (with_reducible exact Calls.regrown_of (asked_ct _ _ _ _ _ _ (H.next (below_regrown _ _ _)) _ 0 rfl))) | fail)))); (refine wpQuiet_nil ?_); (refine ⟨⟨⟨⟨_, run_alloc_by _ rfl _⟩, ⟨rfl, by kernel_rfl, rfl, by kernel_rfl, fun _ => rfl⟩, trivial⟩, trivial⟩, fun wx HM => ?_⟩); clear H; have H := HM; clear HM H0 hwy; (dsimp only [boxesL, List.cons_append, List.nil_append] at H); (try dsimp only [ptrTo]); (try generalize hq0 : β 8 = q0 at *)
  go_wp2_with (first | go_skip | (refine gate_load _ _ rfl ?_; first | (refine wpList_mload1 rfl _ _ rfl _ _ rfl 0 H _ (.bool _) rfl rfl (by decide +kernel) ?_)) | (refine gate_store _ _ _ rfl ?_; (first | (refine wpList_mstore rfl _ _ _ rfl rfl _ _ rfl 1 H _ _ rfl (.bool _) rfl (by kernel_rfl) (of_decide_eq_true (by kernel_rfl)) (by kernel_rfl) (by first | with_reducible exact st_Ctl _ _) ?_)); clear H; intro w1 H; simp only [List.set_cons_zero, List.set_cons_succ] at H) | fail)
  all_goals (
    (try simp only [Act.put, List.setIfInBounds_toArray, List.set_cons_succ, List.set_cons_zero])
    (refine wp_region_quiet_below (by kernel_rfl) (by kernel_rfl) ?_); (repeat (first | (go_big_quiet_want; refine gate_qload _ _ rfl ?_; (first | (refine quiet_mload1 _ _ rfl _ _ rfl 0 H _ (.int _ _) rfl rfl (by decide +kernel) ?_)); simp only [Act.put, List.setIfInBounds_toArray, List.set_cons_succ, List.set_cons_zero]; go_big_quiet_on) | go_big_quiet_step ((first | (go_at_call 120; (with_reducible exact Calls.regrown_of (wanted_ct _ _ _ _ _ _ (H.next (below_regrown _ _ _)) _ 1 rfl))) | fail)))); (refine wpQuiet_nil ?_); intro _ hw'; obtain ⟨⟨dq, osq⟩, hw''⟩ := hw'; (subst hw''); replace H := H.next (below_regrown _ dq osq))
  all_goals (
    go_wp2_with (first | go_skip | (refine gate_load _ _ rfl ?_; first | (refine wpList_mload1 rfl _ _ rfl _ _ rfl 1 H _ (.bool _) rfl rfl (by decide +kernel) ?_)) | (refine gate_store _ _ _ rfl ?_; (first | (refine wpList_mstore rfl _ _ _ rfl rfl _ _ rfl 1 H _ _ rfl (.int _ _) rfl (by kernel_rfl) (of_decide_eq_true (by kernel_rfl)) (by kernel_rfl) (by first | with_reducible exact st_Nx _ _) ?_) | (refine wpList_mstore rfl _ _ _ rfl rfl _ _ rfl 1 H _ _ rfl (.bool _) rfl (by kernel_rfl) (of_decide_eq_true (by kernel_rfl)) (by kernel_rfl) (by first | with_reducible exact st_PCS _ _) ?_)); clear H; intro w1 H; simp only [List.set_cons_zero, List.set_cons_succ] at H) | fail))
  (try simp only [IntKind.wrap_u16, IntKind.wrap_u8] at H)
  all_goals (first | refine fall rfl rfl ?_ | refine fallr rfl rfl ?_)
  all_goals (refine ⟨rfl, ?_⟩; first | (refine (H.only (i := 1) rfl).asW ?_; clear H; simp_all [IntKind.wrap_u16, IntKind.wrap_u8, Wk.uA, Wk.uX, Wk.uY, Wk.uS, Wk.uSV, Wk.uF, Wk.uPC, Wk.uPCS, Wk.uOp, Wk.uT, Wk.uAd, Wk.uAdS, Wk.uD, Wk.uCr, Wk.uIntr, Wk.uNmi, Wk.uGot, Wk.uPend, Wk.uCtl, Wk.uJam, Wk.uNx, Wk.uIs, doM, onW, keepW, jumpW, pushedW, pulledW, addW, reachW, begunW, beginW, branchW, aimW, crossW, loadA, loadX, loadY, flagW, cmpW, endW, hearW, turnW]; done))

set_option maxHeartbeats 2000000 in
theorem aim_ct (s : Wk) (F : Fiw s) : CM 101 s (aimW s) := by
  intro R T w hR
  have FF := F
  obtain ⟨⟨a0, a1, x0, x1, y0, y1, s0, s1, p0, p1, q0, q1, cp, cq, pc0, pc1, op0, op1, ad0, ad1, d0, d1⟩, v0, v1⟩ := F
  have F := FF
  clear cp cq FF
  have HZB := Lib.hid alloc_by
  have HZU := Lib.hid alloc_bus
  have H := Mem.begin hR
  clear hR
  go_enter Tryz.func101, Tryz.ntmps101
  go_wp2_with (first | go_skip | (refine gate_load _ _ rfl ?_; first | (refine wpList_mload1 rfl _ _ rfl _ _ rfl 0 H _ (.bool _) rfl rfl (by decide +kernel) ?_)) | (refine gate_store _ _ _ rfl ?_; (first | (refine wpList_mstore rfl _ _ _ rfl rfl _ _ rfl 0 H _ _ rfl (.bool _) rfl (by kernel_rfl) (of_decide_eq_true (by kernel_rfl)) (by kernel_rfl) (by first | with_reducible exact st_PCS _ _ | with_reducible exact st_Ctl _ _) ?_)); clear H; intro w1 H; simp only [List.set_cons_zero, List.set_cons_succ] at H) | fail)
  all_goals (
    (try simp only [Act.put, List.setIfInBounds_toArray, List.set_cons_succ, List.set_cons_zero])
    (refine wp_region_tails_below 14 (by kernel_rfl) (by kernel_rfl) ?_); (simp only [List.take_succ_cons, List.take_zero, List.drop_succ_cons, List.drop_zero]); (repeat (first | (go_big_quiet_want; refine gate_qload _ _ rfl ?_; (first | (refine quiet_mload1 _ _ rfl _ _ rfl 0 H _ (.int _ _) rfl rfl (by decide +kernel) ?_)); simp only [Act.put, List.setIfInBounds_toArray, List.set_cons_succ, List.set_cons_zero]; go_big_quiet_on) | go_big_quiet_step (fail))); (refine wpQuiet_nil ?_); intro _ hw'; obtain ⟨⟨dq, osq⟩, hw''⟩ := hw'; (subst hw''); replace H := H.next (below_regrown _ dq osq))
  all_goals (
    go_wp2_with (first | go_skip | (refine gate_load _ _ rfl ?_; first | (refine wpList_mload1 rfl _ _ rfl _ _ rfl 0 H _ (.int _ _) rfl rfl (by decide +kernel) ?_) | (refine wpList_mload1 rfl _ _ rfl _ _ rfl 0 H _ (.bool _) rfl rfl (by decide +kernel) ?_)) | (refine gate_store _ _ _ rfl ?_; (first | (refine wpList_mstore rfl _ _ _ rfl rfl _ _ rfl 0 H _ _ rfl (.int _ _) rfl (by kernel_rfl) (of_decide_eq_true (by kernel_rfl)) (by kernel_rfl) (by first | with_reducible exact st_PC _ _ | with_reducible exact st_Ad _ _ | with_reducible exact st_Nx _ _) ?_) | (refine wpList_mstore rfl _ _ _ rfl rfl _ _ rfl 0 H _ _ rfl (.bool _) rfl (by kernel_rfl) (of_decide_eq_true (by kernel_rfl)) (by kernel_rfl) (by first | with_reducible exact st_AdS _ _) ?_)); clear H; intro w1 H; simp only [List.set_cons_zero, List.set_cons_succ] at H) | fail))
  all_goals (
    have hT : IntKind.u16.wrap (s.pc + IntKind.u16.wrap (IntKind.i8.wrap s.dv)) = aimT s := aim_to _ _ d0 d1
    have hr := aimT_le s
    have hL : bits .and .u16 (aimT s) 255 = aimT s % 256 := low_page _ hr.1 hr.2
    have hK : bits .or .u16 (bits .and .u16 s.pc 65280) (aimT s % 256) = s.pc / 256 * 256 + aimT s % 256 := keep_page _ _ pc0 pc1 (mod8_le _).1 (mod8_le _).2
    (try simp only [Wk.uCtl, Wk.uPCS, Wk.uPC, Wk.uNx, Wk.uAd, Wk.uAdS] at *)
    (try simp only [hT] at *)
    (try simp only [hL] at *)
    (try simp only [hK] at *)
    clear hT hr hL hK)
  (try simp only [IntKind.wrap_u16, IntKind.wrap_u8] at H)
  all_goals (first | refine fall rfl rfl ?_ | refine fallr rfl rfl ?_)
  all_goals (refine ⟨rfl, ?_⟩; first | (refine (H.only (i := 0) rfl).asW ?_; clear H; simp_all [IntKind.wrap_u16, IntKind.wrap_u8, Wk.uA, Wk.uX, Wk.uY, Wk.uS, Wk.uSV, Wk.uF, Wk.uPC, Wk.uPCS, Wk.uOp, Wk.uT, Wk.uAd, Wk.uAdS, Wk.uD, Wk.uCr, Wk.uIntr, Wk.uNmi, Wk.uGot, Wk.uPend, Wk.uCtl, Wk.uJam, Wk.uNx, Wk.uIs, doM, onW, keepW, jumpW, pushedW, pulledW, addW, reachW, begunW, beginW, branchW, aimW, crossW, loadA, loadX, loadY, flagW, cmpW, endW, hearW, turnW]; done))

end Go.Proofs.YtbonamhinnhlnaaGreatDoor
