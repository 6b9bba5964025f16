/-
  Several texts in one: what is read and written by the functions on the way to the statements. Conditions stand in each theorem.
-/
import Derived.Test.YtbonamhinnhlnaaGreatDoorP19
import Derived.Test.YtbonamhinnhlnaaGreatDoorP14
namespace Go.Proofs.YtbonamhinnhlnaaGreatDoor
open Go.RowKit
set_option linter.unusedSimpArgs false
set_option linter.unusedVariables false
set_option maxRecDepth 20000

theorem quiet_oload {P : Program} {o : Oper} {a : Act} {w : World} {n : Nat} {w0 : World} {l : List (Nat × Array Value)} {K : Act → Prop} (ty : TypeId) (x : Operand) (ho : o.op = .load ty x) (R off : Nat) (hx : a.eval x = .pointer (some ⟨R, off, none⟩)) (H : Mem n [] w0 w l) (cs sub : Array Value) (T : TypeId) (hR : w0.heap[R]? = some (.cells cs T)) (hlt : R < n)
    (hu : (P.underlying ty).map aggB = some true) (hz : (P.info? ty).map (·.size) = some sub.size) (hs : ∀ j v, sub[j]? = some v → cs[off + j]? = some v) (h : K (a.put o.dst (.agg sub))) : o.quiet P a (fun w' => ∃ p : Regrown, w' = Go.Sort.grow (redrawn w p.d) p.os) K :=
  ⟨_, fun w' hw' => by
    obtain ⟨p, rfl⟩ := hw'
    have hg := ((H.next (below_regrown w p.d p.os)).toBelow.block R hlt).trans hR
    unfold Oper.quietAt execOp
    simp only [ho, hx, Instr.loadAt, Instr.sureAddr, Sem.run_bind, Sem.run_pure, Result.andThen_ok, run_loadVar_part _ R off T ty cs sub hg hu hz hs]
    exact ⟨rfl, rfl⟩, h⟩
set_option maxHeartbeats 2000000 in
theorem firm_ct (s : Wk) (n : Nat) (X : List Nat) (W w : World) (l : List (Nat × Array Value)) (H0 : Mem n X W w l) (R i : Nat) (hi : l[i]? = some (R, wkC s)) : Calls Tryz.prog 237 #[.pointer (some ⟨R, 0, none⟩)] w fun e w' => e = .returned (.agg #[.int .u8 (orV s.av 238), .bool s.ab]) ∧ Below w.heap.size w w' := by
  obtain ⟨T, hT⟩ := H0.get hi
  have hlt : R < w.heap.size := (Array.getElem?_eq_some_iff.1 hT).1
  clear H0
  have H := Mem.start w
  have HZB := Lib.hid alloc_by
  have HZU := Lib.hid alloc_bus
  go_enter Tryz.func237, Tryz.ntmps237
  go_wp2_with (first | go_skip | (refine wpList_mnew rfl _ rfl H _ HZB.out ?_; clear H; intro _ w1 _ H) | fail)
  (try simp only [Act.put, List.setIfInBounds_toArray, List.set_cons_succ, List.set_cons_zero])
  (refine wp_region_tails_below 7 (by kernel_rfl) (by kernel_rfl) ?_); (simp only [List.take_succ_cons, List.take_zero, List.drop_succ_cons, List.drop_zero]); (repeat (first | (go_big_quiet_want; refine gate_qload _ _ rfl ?_; refine quiet_oload 23 _ rfl _ _ rfl H _ #[.int .u8 _, .bool _] T hT hlt (by decide +kernel) (by kernel_rfl) (part2 rfl rfl) ?_; simp only [Act.put, List.setIfInBounds_toArray, List.set_cons_succ, List.set_cons_zero]; go_big_quiet_on) | go_big_quiet_step ((first | (go_at_call 172; (with_reducible exact Calls.regrown_of (low_ct _ _))) | (go_at_call 228; (with_reducible exact Calls.regrown_of (or_ct _ _ _ _ _))) | fail)))); (refine wpQuiet_nil ?_); intro _ hw'; obtain ⟨⟨dq, osq⟩, hw''⟩ := hw'; (subst hw''); replace H := H.next (below_regrown _ dq osq)
  go_wp2_with (first | go_skip | (refine gate_store _ _ _ rfl ?_; (first | (refine wpList_mstoreA rfl 23 _ _ rfl rfl _ rfl 0 H #[.int .u8 _, .bool _] _ rfl rfl (by kernel_rfl) (by kernel_rfl) (by kernel_rfl) ?_)); clear H; intro w1 H; simp only [List.set_cons_zero, List.set_cons_succ] at H) | fail)
  first | refine ret_mem1 rfl _ rfl 0 H _ rfl (by kernel_rfl) (by kernel_rfl) rfl ?_
  exact ⟨by simp [orV], H.toBelow⟩
set_option maxHeartbeats 2000000 in
theorem with_ct (s : Wk) (v : Int) (b : Bool) (p q : Int) : ∀ (R : Nat) (T : TypeId) (w : World), w.heap[R]? = some (.cells (wkC s) T) → Calls Tryz.prog 222 #[.pointer (some ⟨R, 0, none⟩), .agg #[.int .u8 v, .bool b], .agg #[.int .u8 p, .int .u8 q]] w fun e w' => e = .returned (.agg #[.int .u8 v, .bool b]) ∧ Mem w.heap.size [R] w w' [(R, wkC { s with p := p, ps := q })] := by
  intro R T w hR
  have HZB := Lib.hid alloc_by
  have HZU := Lib.hid alloc_bus
  have HZF := Lib.hid alloc_fl
  have H := Mem.begin hR
  clear hR
  go_enter Tryz.func222, Tryz.ntmps222
  go_wp2_with (first | (refine wpList_mboxA rfl _ _ rfl H _ rfl ?_; clear H; intro _ w1 _ H) | go_skip | (refine gate_load _ _ rfl ?_; first | (refine wpList_mloadA rfl 23 _ rfl _ rfl 2 H #[.int .u8 _, .bool _] rfl (by decide +kernel) (by kernel_rfl) ?_) | (refine wpList_mloadA rfl 25 _ rfl _ rfl 1 H #[.int .u8 _, .int .u8 _] rfl (by decide +kernel) (by kernel_rfl) ?_)) | (refine gate_store _ _ _ rfl ?_; (first | (refine wpList_mstoreA rfl 23 _ _ rfl rfl _ rfl 0 H #[.int .u8 _, .bool _] _ rfl rfl (by kernel_rfl) (by kernel_rfl) (by kernel_rfl) ?_) | (refine wpList_mstore rfl 25 _ _ rfl rfl _ _ rfl 3 H _ _ rfl (.agg #[.int .u8 _, .int .u8 _]) rfl (by kernel_rfl) (of_decide_eq_true (by kernel_rfl)) (by kernel_rfl) (by first | with_reducible exact st_F _ _ _) ?_)); clear H; intro w1 H; simp only [List.set_cons_zero, List.set_cons_succ] at H) | (refine wpList_mnew rfl _ rfl H _ HZB.out ?_; clear H; intro _ w1 _ H) | fail)
  first | refine ret_mem1 rfl _ rfl 0 H _ rfl (by kernel_rfl) (by kernel_rfl) rfl ?_ | refine ret_mem1 rfl _ rfl 1 H _ rfl (by kernel_rfl) (by kernel_rfl) rfl ?_ | refine ret_mem1 rfl _ rfl 2 H _ rfl (by kernel_rfl) (by kernel_rfl) rfl ?_
  exact ⟨rfl, H.only (i := 3) rfl⟩
set_option maxHeartbeats 2000000 in
theorem k_ane (s : Wk) (v : Int) (b : Bool) (F : Fiw s) (g0 : 0 ≤ v) (g1 : v < 256) : CB 214 s (loadA s (bothV (bothV (orV s.av 238) s.xv) v) (s.ab || s.xb || b)) v b := by
  intro R T w hR
  have FF := F
  obtain ⟨⟨a0, a1, x0, x1, y0, y1, s0, s1, p0, p1, q0, q1, cp, cq, pc0, pc1, op0, op1, ad0, ad1, d0, d1⟩, v0, v1⟩ := F
  have F := FF
  clear cp cq FF
  have o4 := orV_le s.av 238 a0 a1 (by decide) (by decide)
  have o5 := bothV_le _ v o4.1 o4.2 g0 g1
  have o6 := bothV_le _ s.xv o4.1 o4.2 x0 x1
  have o7 := bothV_le _ v o6.1 o6.2 g0 g1
  have o8 := bothV_le s.av s.xv a0 a1 x0 x1
  have HZB := Lib.hid alloc_by
  have HZU := Lib.hid alloc_bus
  have H := Mem.begin hR
  clear hR
  have MR1 : True := trivial
  go_enter Tryz.func214, Tryz.ntmps214
  go_wp2_with (first | (refine wpList_mboxA rfl _ _ rfl H _ rfl ?_; clear H; (first | (clear MR1; intro R1 w1 _ H))) | go_skip | fail)
  (try simp only [Act.put, List.setIfInBounds_toArray, List.set_cons_succ, List.set_cons_zero])
  (refine wp_region_tails_below 11 (by kernel_rfl) (by kernel_rfl) ?_); (simp only [List.take_succ_cons, List.take_zero, List.drop_succ_cons, List.drop_zero]); (repeat (first | (go_big_quiet_want; refine gate_qload _ _ rfl ?_; (first | (refine quiet_mloadA 23 _ rfl _ rfl 0 H #[.int .u8 _, .bool _] rfl (by decide +kernel) (by kernel_rfl) ?_) | (refine quiet_mload 23 _ rfl _ _ rfl 1 H _ #[.int .u8 _, .bool _] rfl (by decide +kernel) (by kernel_rfl) (part2 rfl rfl) ?_)); simp only [Act.put, List.setIfInBounds_toArray, List.set_cons_succ, List.set_cons_zero]; go_big_quiet_on) | go_big_quiet_step ((first | (go_at_call 237; (with_reducible exact Calls.regrown_of (firm_ct _ _ _ _ _ _ (H.next (below_regrown _ _ _)) _ 1 rfl))) | (go_at_call 227; (with_reducible exact Calls.regrown_of (and_ct _ _ _ _ _))) | fail)))); (refine wpQuiet_nil ?_); intro _ hw'; obtain ⟨⟨dq, osq⟩, hw''⟩ := hw'; (subst hw''); replace H := H.next (below_regrown _ dq osq)
  go_wp2_with (first | (go_at_call 196; obtain ⟨T0, hT⟩ := H.get (i := 1) rfl; (with_reducible refine Calls.mono (k_lda _ _ _ F (by first | assumption | (with_unfolding_all exact g0) | (with_unfolding_all exact o5.1) | (with_unfolding_all exact o7.1) | (with_unfolding_all exact o8.1)) (by first | assumption | (with_unfolding_all exact g1) | (with_unfolding_all exact o5.2) | (with_unfolding_all exact o7.2) | (with_unfolding_all exact o8.2)) _ _ _ hT) ?_); rintro e w2 ⟨rfl, hm⟩; replace H := H.call (i := 1) rfl hm; clear hm hT; simp only [List.set_cons_zero, List.set_cons_succ] at H) | go_skip | fail)
  (try simp only [IntKind.wrap_u16, IntKind.wrap_u8] at H)
  all_goals (first | refine fall rfl rfl ?_ | refine fallr rfl rfl ?_)
  all_goals (refine ⟨rfl, ?_⟩; first | exact H.only (i := 1) rfl)

set_option maxHeartbeats 2000000 in
theorem k_lxa (s : Wk) (v : Int) (b : Bool) (F : Fiw s) (g0 : 0 ≤ v) (g1 : v < 256) : CB 215 s ({ loadA s (bothV (orV s.av 238) v) (s.ab || b) with xv := bothV (orV s.av 238) v, xb := s.ab || b }) v b := by
  intro R T w hR
  have FF := F
  obtain ⟨⟨a0, a1, x0, x1, y0, y1, s0, s1, p0, p1, q0, q1, cp, cq, pc0, pc1, op0, op1, ad0, ad1, d0, d1⟩, v0, v1⟩ := F
  have F := FF
  clear cp cq FF
  have o4 := orV_le s.av 238 a0 a1 (by decide) (by decide)
  have o5 := bothV_le _ v o4.1 o4.2 g0 g1
  have o6 := bothV_le _ s.xv o4.1 o4.2 x0 x1
  have o7 := bothV_le _ v o6.1 o6.2 g0 g1
  have o8 := bothV_le s.av s.xv a0 a1 x0 x1
  have HZB := Lib.hid alloc_by
  have HZU := Lib.hid alloc_bus
  have H := Mem.begin hR
  clear hR
  have MR1 : True := trivial
  go_enter Tryz.func215, Tryz.ntmps215
  go_wp2_with (first | (refine wpList_mboxA rfl _ _ rfl H _ rfl ?_; clear H; (first | (clear MR1; intro R1 w1 _ H))) | go_skip | fail)
  (try simp only [Act.put, List.setIfInBounds_toArray, List.set_cons_succ, List.set_cons_zero])
  (refine wp_region_tails_below 5 (by kernel_rfl) (by kernel_rfl) ?_); (simp only [List.take_succ_cons, List.take_zero, List.drop_succ_cons, List.drop_zero]); (repeat (first | (go_big_quiet_want; refine gate_qload _ _ rfl ?_; (first | (refine quiet_mloadA 23 _ rfl _ rfl 0 H #[.int .u8 _, .bool _] rfl (by decide +kernel) (by kernel_rfl) ?_)); simp only [Act.put, List.setIfInBounds_toArray, List.set_cons_succ, List.set_cons_zero]; go_big_quiet_on) | go_big_quiet_step ((first | (go_at_call 237; (with_reducible exact Calls.regrown_of (firm_ct _ _ _ _ _ _ (H.next (below_regrown _ _ _)) _ 1 rfl))) | (go_at_call 227; (with_reducible exact Calls.regrown_of (and_ct _ _ _ _ _))) | fail)))); (refine wpQuiet_nil ?_); intro _ hw'; obtain ⟨⟨dq, osq⟩, hw''⟩ := hw'; (subst hw''); replace H := H.next (below_regrown _ dq osq)
  go_wp2_with (first | (go_at_call 199; obtain ⟨T0, hT⟩ := H.get (i := 1) rfl; (with_reducible refine Calls.mono (k_lax _ _ _ F (by first | assumption | (with_unfolding_all exact g0) | (with_unfolding_all exact o5.1) | (with_unfolding_all exact o7.1) | (with_unfolding_all exact o8.1)) (by first | assumption | (with_unfolding_all exact g1) | (with_unfolding_all exact o5.2) | (with_unfolding_all exact o7.2) | (with_unfolding_all exact o8.2)) _ _ _ hT) ?_); rintro e w2 ⟨rfl, hm⟩; replace H := H.call (i := 1) rfl hm; clear hm hT; simp only [List.set_cons_zero, List.set_cons_succ] at H) | go_skip | fail)
  (try simp only [IntKind.wrap_u16, IntKind.wrap_u8] at H)
  all_goals (first | refine fall rfl rfl ?_ | refine fallr rfl rfl ?_)
  all_goals (refine ⟨rfl, ?_⟩; first | exact H.only (i := 1) rfl)

set_option maxHeartbeats 2000000 in
theorem k_adc (s : Wk) (v : Int) (b : Bool) (F : Fiw s) (g0 : 0 ≤ v) (g1 : v < 256) : CB 204 s (adcW s v b) v b := by
  intro R T w hR
  have FF := F
  obtain ⟨⟨a0, a1, x0, x1, y0, y1, s0, s1, p0, p1, q0, q1, cp, cq, pc0, pc1, op0, op1, ad0, ad1, d0, d1⟩, v0, v1⟩ := F
  have F := FF
  clear cp cq FF
  have o8 := bothV_le s.av s.xv a0 a1 x0 x1
  have o9 : 0 ≤ bits .and .u8 (s.av) (s.xv) := o8.1
  have o10 : bits .and .u8 (s.av) (s.xv) < 256 := o8.2
  have HZB := Lib.hid alloc_by
  have HZU := Lib.hid alloc_bus
  have H := Mem.begin hR
  clear hR
  have MR1 : True := trivial
  go_enter Tryz.func204, Tryz.ntmps204
  go_wp2_with (first | (refine wpList_mboxA rfl _ _ rfl H _ rfl ?_; clear H; (first | (clear MR1; intro R1 w1 _ H))) | go_skip | fail)
  (try simp only [Act.put, List.setIfInBounds_toArray, List.set_cons_succ, List.set_cons_zero])
  refine wp_region_x (by kernel_rfl) (by kernel_rfl) [(some 4, fun _ => .pointer (some ⟨R, 0, none⟩)), (some 5, fun _ => .pointer (some ⟨R, 0, none⟩)), (some 6, fun _ => .pointer (some ⟨R, 0, none⟩)), (some 7, fun _ => .pointer (some ⟨R, 0, none⟩)), (some 8, fun _ => .pointer (some ⟨R, 0, none⟩)), (some 9, fun _ => .pointer (some ⟨R, 8, none⟩)), (some 10, fun _ => .agg #[.int .u8 ((s).p), .int .u8 ((s).ps)]), (some 11, fun _ => .pointer (some ⟨R, 0, none⟩)), (some 12, fun _ => .pointer (some ⟨R, 0, none⟩)), (some 13, fun _ => .pointer (some ⟨R, 0, none⟩)), (some 14, fun _ => .pointer (some ⟨R, 0, none⟩)), (some 15, fun _ => .agg #[.int .u8 ((s).av), .bool ((s).ab)]), (some 16, fun _ => .agg #[.int .u8 (v), .bool (b)]), (some 17, fun _ => .tuple #[.agg #[.int .u8 (adcV ((s).av) (v) (cI ((s).p))), .bool (((s).ab) || ((b) || hasV ((s).ps) 1))], .agg #[.int .u8 (adcP ((s).p) ((s).av) (v) (cI ((s).p))), .int .u8 (adcS ((s).ps) (((s).ab) || ((b) || hasV ((s).ps) 1)))]]), (some 18, fun _ => .agg #[.int .u8 (adcV ((s).av) (v) (cI ((s).p))), .bool (((s).ab) || ((b) || hasV ((s).ps) 1))]), (some 19, fun _ => .agg #[.int .u8 (adcP ((s).p) ((s).av) (v) (cI ((s).p))), .int .u8 (adcS ((s).ps) (((s).ab) || ((b) || hasV ((s).ps) 1)))]), (some 20, fun _ => .agg #[.int .u8 (adcV ((s).av) (v) (cI ((s).p))), .bool (((s).ab) || ((b) || hasV ((s).ps) 1))]), (some 21, fun _ => .pointer (some ⟨R, 0, none⟩)), (some 22, fun _ => .pointer (some ⟨R, 0, none⟩)), (some 23, fun _ => .pointer (some ⟨R, 0, none⟩)), (none, fun _ => undef)] (fun D bq w => Mem _ _ _ w ([(R1, #[.int .u8 (v), .bool (b)]), (R, cond (D 20) (wkC ((({ s with p := adcP ((s).p) ((s).av) (v) (cI ((s).p)), ps := adcS ((s).ps) (((s).ab) || ((b) || hasV ((s).ps) 1)) } : Wk)).uA (adcV ((s).av) (v) (cI ((s).p))) (((s).ab) || ((b) || hasV ((s).ps) 1)))) (cond (D 16) (wkC (({ s with p := adcP ((s).p) ((s).av) (v) (cI ((s).p)), ps := adcS ((s).ps) (((s).ab) || ((b) || hasV ((s).ps) 1)) } : Wk))) (wkC (s))))])) 24 (by rfl) (by rfl) (by rfl) H.drew ⟨⟨rfl, ?p0⟩, ⟨rfl, ?p1⟩, ⟨rfl, ?p2⟩, ⟨rfl, ?p3⟩, ⟨rfl, ?p4⟩, ⟨rfl, ?p5⟩, ⟨rfl, ?p6⟩, ⟨rfl, ?p7⟩, ⟨rfl, ?p8⟩, ⟨rfl, ?p9⟩, ⟨rfl, ?p10⟩, ⟨rfl, ?p11⟩, ⟨rfl, ?p12⟩, ⟨rfl, ?p13⟩, ⟨rfl, ?p14⟩, ⟨rfl, ?p15⟩, ⟨rfl, ?p16⟩, ⟨rfl, ?p17⟩, ⟨rfl, ?p18⟩, ⟨rfl, ?p19⟩, ⟨rfl, ?p20⟩, trivial⟩ ?_
  case p0 =>
    intro D bq a' w' hk hc he hl hW
    (try dsimp only at hW)
    have f0 : a'.tmps.getD 0 undef = .pointer (some ⟨R, 0, none⟩) := (hl 0).trans ((vsx_no rfl).trans rfl)
    exact wp_val (.pointer (some ⟨R, 0, none⟩)) (by simp only [execOp, Act.eval, List.map_toArray, List.map_cons, List.map_nil]; rw [f0]; kernel_rfl) ⟨0, rfl, hW⟩
  case p1 =>
    intro D bq a' w' hk hc he hl hW
    (try dsimp only at hW)
    have f0 : a'.tmps.getD 0 undef = .pointer (some ⟨R, 0, none⟩) := (hl 0).trans ((vsx_no rfl).trans rfl)
    exact wp_val (.pointer (some ⟨R, 0, none⟩)) (by simp only [execOp, Act.eval, List.map_toArray, List.map_cons, List.map_nil]; rw [f0]; kernel_rfl) ⟨0, rfl, hW⟩
  case p2 =>
    intro D bq a' w' hk hc he hl hW
    (try dsimp only at hW)
    have f0 : a'.tmps.getD 0 undef = .pointer (some ⟨R, 0, none⟩) := (hl 0).trans ((vsx_no rfl).trans rfl)
    exact wp_val (.pointer (some ⟨R, 0, none⟩)) (by simp only [execOp, Act.eval, List.map_toArray, List.map_cons, List.map_nil]; rw [f0]; kernel_rfl) ⟨0, rfl, hW⟩
  case p3 =>
    intro D bq a' w' hk hc he hl hW
    (try dsimp only at hW)
    have e2 : a'.tmps.getD 6 undef = .pointer (some ⟨R, 0, none⟩) := (hl 6).trans (vsx_at (f := fun _ => .pointer (some ⟨R, 0, none⟩)) rfl (he ⟨2, .data⟩ (by simp) rfl) rfl)
    exact wp_val (.pointer (some ⟨R, 0, none⟩)) (by simp only [execOp, Act.eval, List.map_toArray, List.map_cons, List.map_nil]; rw [e2]; kernel_rfl) ⟨0, rfl, hW⟩
  case p4 =>
    intro D bq a' w' hk hc he hl hW
    (try dsimp only at hW)
    have e3 : a'.tmps.getD 7 undef = .pointer (some ⟨R, 0, none⟩) := (hl 7).trans (vsx_at (f := fun _ => .pointer (some ⟨R, 0, none⟩)) rfl (he ⟨3, .data⟩ (by simp) rfl) rfl)
    exact wp_val (.pointer (some ⟨R, 0, none⟩)) (by simp only [execOp, Act.eval, List.map_toArray, List.map_cons, List.map_nil]; rw [e3]; kernel_rfl) ⟨0, rfl, hW⟩
  case p5 =>
    intro D bq a' w' hk hc he hl hW
    (try dsimp only at hW)
    have e4 : a'.tmps.getD 8 undef = .pointer (some ⟨R, 0, none⟩) := (hl 8).trans (vsx_at (f := fun _ => .pointer (some ⟨R, 0, none⟩)) rfl (he ⟨4, .data⟩ (by simp) rfl) rfl)
    exact wp_val (.pointer (some ⟨R, 8, none⟩)) (by simp only [execOp, Act.eval, List.map_toArray, List.map_cons, List.map_nil]; rw [e4]; kernel_rfl) ⟨0, rfl, hW⟩
  case p6 =>
    intro D bq a' w' hk hc he hl hW
    (try dsimp only at hW)
    have e5 : a'.tmps.getD 9 undef = .pointer (some ⟨R, 8, none⟩) := (hl 9).trans (vsx_at (f := fun _ => .pointer (some ⟨R, 8, none⟩)) rfl (he ⟨5, .data⟩ (by simp) rfl) rfl)
    have n13 : D 13 = false := hc.no .data hk rfl (by simp) rfl
    have n16 : D 16 = false := hc.no .chain n13 rfl (by simp) rfl
    have n20 : D 20 = false := hc.no .phase hk rfl (by simp) rfl
    have hM := hW
    simp only [hk, n16, n20, cond_false, cond_true] at hM
    exact wp_sload _ _ rfl _ _ e5 1 hM (wkC (s)) (#[.int .u8 ((s).p), .int .u8 ((s).ps)]) rfl (by kernel_rfl) (by kernel_rfl) (part2 rfl rfl) ⟨0, rfl, hW⟩
  case p7 =>
    intro D bq a' w' hk hc he hl hW
    (try dsimp only at hW)
    have f0 : a'.tmps.getD 0 undef = .pointer (some ⟨R, 0, none⟩) := (hl 0).trans ((vsx_no rfl).trans rfl)
    exact wp_val (.pointer (some ⟨R, 0, none⟩)) (by simp only [execOp, Act.eval, List.map_toArray, List.map_cons, List.map_nil]; rw [f0]; kernel_rfl) ⟨0, rfl, hW⟩
  case p8 =>
    intro D bq a' w' hk hc he hl hW
    (try dsimp only at hW)
    have e7 : a'.tmps.getD 11 undef = .pointer (some ⟨R, 0, none⟩) := (hl 11).trans (vsx_at (f := fun _ => .pointer (some ⟨R, 0, none⟩)) rfl (he ⟨7, .data⟩ (by simp) rfl) rfl)
    exact wp_val (.pointer (some ⟨R, 0, none⟩)) (by simp only [execOp, Act.eval, List.map_toArray, List.map_cons, List.map_nil]; rw [e7]; kernel_rfl) ⟨0, rfl, hW⟩
  case p9 =>
    intro D bq a' w' hk hc he hl hW
    (try dsimp only at hW)
    have e8 : a'.tmps.getD 12 undef = .pointer (some ⟨R, 0, none⟩) := (hl 12).trans (vsx_at (f := fun _ => .pointer (some ⟨R, 0, none⟩)) rfl (he ⟨8, .data⟩ (by simp) rfl) rfl)
    exact wp_val (.pointer (some ⟨R, 0, none⟩)) (by simp only [execOp, Act.eval, List.map_toArray, List.map_cons, List.map_nil]; rw [e8]; kernel_rfl) ⟨0, rfl, hW⟩
  case p10 =>
    intro D bq a' w' hk hc he hl hW
    (try dsimp only at hW)
    have e9 : a'.tmps.getD 13 undef = .pointer (some ⟨R, 0, none⟩) := (hl 13).trans (vsx_at (f := fun _ => .pointer (some ⟨R, 0, none⟩)) rfl (he ⟨9, .data⟩ (by simp) rfl) rfl)
    exact wp_val (.pointer (some ⟨R, 0, none⟩)) (by simp only [execOp, Act.eval, List.map_toArray, List.map_cons, List.map_nil]; rw [e9]; kernel_rfl) ⟨0, rfl, hW⟩
  case p11 =>
    intro D bq a' w' hk hc he hl hW
    (try dsimp only at hW)
    have e10 : a'.tmps.getD 14 undef = .pointer (some ⟨R, 0, none⟩) := (hl 14).trans (vsx_at (f := fun _ => .pointer (some ⟨R, 0, none⟩)) rfl (he ⟨10, .data⟩ (by simp) rfl) rfl)
    have n13 : D 13 = false := hc.no .data hk rfl (by simp) rfl
    have n16 : D 16 = false := hc.no .chain n13 rfl (by simp) rfl
    have n20 : D 20 = false := hc.no .phase hk rfl (by simp) rfl
    have hM := hW
    simp only [hk, n16, n20, cond_false, cond_true] at hM
    exact wp_sload _ _ rfl _ _ e10 1 hM (wkC (s)) (#[.int .u8 ((s).av), .bool ((s).ab)]) rfl (by kernel_rfl) (by kernel_rfl) (part2 rfl rfl) ⟨0, rfl, hW⟩
  case p12 =>
    intro D bq a' w' hk hc he hl hW
    (try dsimp only at hW)
    have f3 : a'.tmps.getD 3 undef = .pointer (some ⟨R1, 0, none⟩) := (hl 3).trans ((vsx_no rfl).trans rfl)
    have hM := hW
    exact wp_sload _ _ rfl _ _ f3 0 hM (#[.int .u8 (v), .bool (b)]) (#[.int .u8 (v), .bool (b)]) rfl (by kernel_rfl) (by kernel_rfl) (part2 rfl rfl) ⟨0, rfl, hW⟩
  case p13 =>
    intro D bq a' w' hk hc he hl hW
    (try dsimp only at hW)
    have e6 : a'.tmps.getD 10 undef = .agg #[.int .u8 ((s).p), .int .u8 ((s).ps)] := (hl 10).trans (vsx_at (f := fun _ => .agg #[.int .u8 ((s).p), .int .u8 ((s).ps)]) rfl (he ⟨6, .data⟩ (by simp) rfl) rfl)
    have e11 : a'.tmps.getD 15 undef = .agg #[.int .u8 ((s).av), .bool ((s).ab)] := (hl 15).trans (vsx_at (f := fun _ => .agg #[.int .u8 ((s).av), .bool ((s).ab)]) rfl (he ⟨11, .data⟩ (by simp) rfl) rfl)
    have e12 : a'.tmps.getD 16 undef = .agg #[.int .u8 (v), .bool (b)] := (hl 16).trans (vsx_at (f := fun _ => .agg #[.int .u8 (v), .bool (b)]) rfl (he ⟨12, .data⟩ (by simp) rfl) rfl)
    refine wp_callp (vals := #[.agg #[.int .u8 ((s).p), .int .u8 ((s).ps)], .agg #[.int .u8 ((s).av), .bool ((s).ab)], .agg #[.int .u8 (v), .bool (b)]]) rfl rfl (by simp only [List.map_toArray, List.map_cons, List.map_nil, Act.eval, e6, e11, e12]) (by kernel_rfl) (aadc_ct ((s).p) ((s).ps) ((s).av) ((s).ab) (v) (b) w' (by first | assumption | decide | omega) (by first | assumption | decide | omega) (by first | assumption | decide | omega) (by first | assumption | decide | omega) (by first | assumption | decide | omega) (by first | assumption | decide | omega) (by first | assumption | decide | omega) (by first | assumption | decide | omega)) ?_
    rintro e w2 ⟨rfl, hB⟩
    exact ⟨_, rfl, 0, rfl, Mem.next hW hB⟩
  case p14 =>
    intro D bq a' w' hk hc he hl hW
    (try dsimp only at hW)
    have e13 : a'.tmps.getD 17 undef = .tuple #[.agg #[.int .u8 (adcV ((s).av) (v) (cI ((s).p))), .bool (((s).ab) || ((b) || hasV ((s).ps) 1))], .agg #[.int .u8 (adcP ((s).p) ((s).av) (v) (cI ((s).p))), .int .u8 (adcS ((s).ps) (((s).ab) || ((b) || hasV ((s).ps) 1)))]] := (hl 17).trans (vsx_at (f := fun _ => .tuple #[.agg #[.int .u8 (adcV ((s).av) (v) (cI ((s).p))), .bool (((s).ab) || ((b) || hasV ((s).ps) 1))], .agg #[.int .u8 (adcP ((s).p) ((s).av) (v) (cI ((s).p))), .int .u8 (adcS ((s).ps) (((s).ab) || ((b) || hasV ((s).ps) 1)))]]) rfl (he ⟨13, .data⟩ (by simp) rfl) rfl)
    exact wp_val (.agg #[.int .u8 (adcV ((s).av) (v) (cI ((s).p))), .bool (((s).ab) || ((b) || hasV ((s).ps) 1))]) (by simp only [execOp, Act.eval, List.map_toArray, List.map_cons, List.map_nil]; rw [e13]; kernel_rfl) ⟨0, rfl, hW⟩
  case p15 =>
    intro D bq a' w' hk hc he hl hW
    (try dsimp only at hW)
    have e13 : a'.tmps.getD 17 undef = .tuple #[.agg #[.int .u8 (adcV ((s).av) (v) (cI ((s).p))), .bool (((s).ab) || ((b) || hasV ((s).ps) 1))], .agg #[.int .u8 (adcP ((s).p) ((s).av) (v) (cI ((s).p))), .int .u8 (adcS ((s).ps) (((s).ab) || ((b) || hasV ((s).ps) 1)))]] := (hl 17).trans (vsx_at (f := fun _ => .tuple #[.agg #[.int .u8 (adcV ((s).av) (v) (cI ((s).p))), .bool (((s).ab) || ((b) || hasV ((s).ps) 1))], .agg #[.int .u8 (adcP ((s).p) ((s).av) (v) (cI ((s).p))), .int .u8 (adcS ((s).ps) (((s).ab) || ((b) || hasV ((s).ps) 1)))]]) rfl (he ⟨13, .data⟩ (by simp) rfl) rfl)
    exact wp_val (.agg #[.int .u8 (adcP ((s).p) ((s).av) (v) (cI ((s).p))), .int .u8 (adcS ((s).ps) (((s).ab) || ((b) || hasV ((s).ps) 1)))]) (by simp only [execOp, Act.eval, List.map_toArray, List.map_cons, List.map_nil]; rw [e13]; kernel_rfl) ⟨0, rfl, hW⟩
  case p16 =>
    intro D bq a' w' hk hc he hl hW
    (try dsimp only at hW)
    have e1 : a'.tmps.getD 5 undef = .pointer (some ⟨R, 0, none⟩) := (hl 5).trans (vsx_at (f := fun _ => .pointer (some ⟨R, 0, none⟩)) rfl (he ⟨1, .data⟩ (by simp) rfl) rfl)
    have e14 : a'.tmps.getD 18 undef = .agg #[.int .u8 (adcV ((s).av) (v) (cI ((s).p))), .bool (((s).ab) || ((b) || hasV ((s).ps) 1))] := (hl 18).trans (vsx_at (f := fun _ => .agg #[.int .u8 (adcV ((s).av) (v) (cI ((s).p))), .bool (((s).ab) || ((b) || hasV ((s).ps) 1))]) rfl (he ⟨14, .data⟩ (by simp) rfl) rfl)
    have e15 : a'.tmps.getD 19 undef = .agg #[.int .u8 (adcP ((s).p) ((s).av) (v) (cI ((s).p))), .int .u8 (adcS ((s).ps) (((s).ab) || ((b) || hasV ((s).ps) 1)))] := (hl 19).trans (vsx_at (f := fun _ => .agg #[.int .u8 (adcP ((s).p) ((s).av) (v) (cI ((s).p))), .int .u8 (adcS ((s).ps) (((s).ab) || ((b) || hasV ((s).ps) 1)))]) rfl (he ⟨15, .data⟩ (by simp) rfl) rfl)
    have n20 : D 20 = false := hc.no .data hk rfl (by simp) rfl
    have hM := hW
    simp only [hk, n20, cond_false, cond_true] at hM
    obtain ⟨T9, hT⟩ := Mem.get hM (i := 1) rfl
    refine wp_callp (vals := #[.pointer (some ⟨R, 0, none⟩), .agg #[.int .u8 (adcV ((s).av) (v) (cI ((s).p))), .bool (((s).ab) || ((b) || hasV ((s).ps) 1))], .agg #[.int .u8 (adcP ((s).p) ((s).av) (v) (cI ((s).p))), .int .u8 (adcS ((s).ps) (((s).ab) || ((b) || hasV ((s).ps) 1)))]]) rfl rfl (by simp only [List.map_toArray, List.map_cons, List.map_nil, Act.eval, e1, e14, e15]) (by kernel_rfl) (with_ct s (adcV ((s).av) (v) (cI ((s).p))) (((s).ab) || ((b) || hasV ((s).ps) 1)) (adcP ((s).p) ((s).av) (v) (cI ((s).p))) (adcS ((s).ps) (((s).ab) || ((b) || hasV ((s).ps) 1))) _ T9 w' hT) ?_
    rintro e w2 ⟨rfl, hm⟩
    refine ⟨_, rfl, 0, rfl, ?_⟩
    (try dsimp only)
    have z20 : doneB D 16 20 = false := n20
    simp only [z20, cond_false]
    exact (Mem.call hM (i := 1) rfl hm)
  case p17 =>
    intro D bq a' w' hk hc he hl hW
    (try dsimp only at hW)
    have e0 : a'.tmps.getD 4 undef = .pointer (some ⟨R, 0, none⟩) := (hl 4).trans (vsx_at (f := fun _ => .pointer (some ⟨R, 0, none⟩)) rfl (he ⟨0, .data⟩ (by simp) rfl) rfl)
    exact wp_val (.pointer (some ⟨R, 0, none⟩)) (by simp only [execOp, Act.eval, List.map_toArray, List.map_cons, List.map_nil]; rw [e0]; kernel_rfl) ⟨0, rfl, hW⟩
  case p18 =>
    intro D bq a' w' hk hc he hl hW
    (try dsimp only at hW)
    have e17 : a'.tmps.getD 21 undef = .pointer (some ⟨R, 0, none⟩) := (hl 21).trans (vsx_at (f := fun _ => .pointer (some ⟨R, 0, none⟩)) rfl (he ⟨17, .data⟩ (by simp) rfl) rfl)
    exact wp_val (.pointer (some ⟨R, 0, none⟩)) (by simp only [execOp, Act.eval, List.map_toArray, List.map_cons, List.map_nil]; rw [e17]; kernel_rfl) ⟨0, rfl, hW⟩
  case p19 =>
    intro D bq a' w' hk hc he hl hW
    (try dsimp only at hW)
    have e18 : a'.tmps.getD 22 undef = .pointer (some ⟨R, 0, none⟩) := (hl 22).trans (vsx_at (f := fun _ => .pointer (some ⟨R, 0, none⟩)) rfl (he ⟨18, .data⟩ (by simp) rfl) rfl)
    exact wp_val (.pointer (some ⟨R, 0, none⟩)) (by simp only [execOp, Act.eval, List.map_toArray, List.map_cons, List.map_nil]; rw [e18]; kernel_rfl) ⟨0, rfl, hW⟩
  case p20 =>
    intro D bq a' w' hk hc he hl hW
    (try dsimp only at hW)
    have e19 : a'.tmps.getD 23 undef = .pointer (some ⟨R, 0, none⟩) := (hl 23).trans (vsx_at (f := fun _ => .pointer (some ⟨R, 0, none⟩)) rfl (he ⟨19, .data⟩ (by simp) rfl) rfl)
    have e16 : a'.tmps.getD 20 undef = .agg #[.int .u8 (adcV ((s).av) (v) (cI ((s).p))), .bool (((s).ab) || ((b) || hasV ((s).ps) 1))] := (hl 20).trans (vsx_at (f := fun _ => .agg #[.int .u8 (adcV ((s).av) (v) (cI ((s).p))), .bool (((s).ab) || ((b) || hasV ((s).ps) 1))]) rfl (he ⟨16, .data⟩ (by simp) rfl) rfl)
    have y16 : D 16 = true := he ⟨16, .data⟩ (by simp) rfl
    have hM := hW
    simp only [hk, y16, cond_false, cond_true] at hM
    refine wp_sstore1 _ _ _ rfl rfl R 0 e19 1 hM (wkC (({ s with p := adcP ((s).p) ((s).av) (v) (cI ((s).p)), ps := adcS ((s).ps) (((s).ab) || ((b) || hasV ((s).ps) 1)) } : Wk))) (wkC ((({ s with p := adcP ((s).p) ((s).av) (v) (cI ((s).p)), ps := adcS ((s).ps) (((s).ab) || ((b) || hasV ((s).ps) 1)) } : Wk)).uA (adcV ((s).av) (v) (cI ((s).p))) (((s).ab) || ((b) || hasV ((s).ps) 1)))) rfl (.agg #[.int .u8 (adcV ((s).av) (v) (cI ((s).p))), .bool (((s).ab) || ((b) || hasV ((s).ps) 1))]) e16 (by kernel_rfl) (of_decide_eq_true (by kernel_rfl)) (by kernel_rfl) (st_A _ _ _) fun w1 hM1 => ⟨0, rfl, ?_⟩
    exact hM1
  intro D bq w' hD hW
  (try dsimp only at hW)
  simp only [hD 16 (by decide), hD 20 (by decide), cond_true] at hW
  clear H hD
  have H := hW
  clear hW
  simp only [putAll, vsOf, Nat.reduceAdd, List.foldl_cons, List.foldl_nil, Act.put, List.setIfInBounds_toArray, List.set_cons_succ, List.set_cons_zero]
  (try simp only [IntKind.wrap_u16, IntKind.wrap_u8] at H)
  all_goals (first | refine fall rfl rfl ?_ | refine fallr rfl rfl ?_)
  all_goals (refine ⟨rfl, ?_⟩; first | exact H.only (i := 1) rfl)

set_option maxHeartbeats 2000000 in
theorem k_sbc (s : Wk) (v : Int) (b : Bool) (F : Fiw s) (g0 : 0 ≤ v) (g1 : v < 256) : CB 205 s (sbcW s v b) v b := by
  intro R T w hR
  have FF := F
  obtain ⟨⟨a0, a1, x0, x1, y0, y1, s0, s1, p0, p1, q0, q1, cp, cq, pc0, pc1, op0, op1, ad0, ad1, d0, d1⟩, v0, v1⟩ := F
  have F := FF
  clear cp cq FF
  have o8 := bothV_le s.av s.xv a0 a1 x0 x1
  have o9 : 0 ≤ bits .and .u8 (s.av) (s.xv) := o8.1
  have o10 : bits .and .u8 (s.av) (s.xv) < 256 := o8.2
  have HZB := Lib.hid alloc_by
  have HZU := Lib.hid alloc_bus
  have H := Mem.begin hR
  clear hR
  have MR1 : True := trivial
  go_enter Tryz.func205, Tryz.ntmps205
  go_wp2_with (first | (refine wpList_mboxA rfl _ _ rfl H _ rfl ?_; clear H; (first | (clear MR1; intro R1 w1 _ H))) | go_skip | fail)
  (try simp only [Act.put, List.setIfInBounds_toArray, List.set_cons_succ, List.set_cons_zero])
  refine wp_region_x (by kernel_rfl) (by kernel_rfl) [(some 4, fun _ => .pointer (some ⟨R, 0, none⟩)), (some 5, fun _ => .pointer (some ⟨R, 0, none⟩)), (some 6, fun _ => .pointer (some ⟨R, 0, none⟩)), (some 7, fun _ => .pointer (some ⟨R, 0, none⟩)), (some 8, fun _ => .pointer (some ⟨R, 0, none⟩)), (some 9, fun _ => .pointer (some ⟨R, 8, none⟩)), (some 10, fun _ => .agg #[.int .u8 ((s).p), .int .u8 ((s).ps)]), (some 11, fun _ => .pointer (some ⟨R, 0, none⟩)), (some 12, fun _ => .pointer (some ⟨R, 0, none⟩)), (some 13, fun _ => .pointer (some ⟨R, 0, none⟩)), (some 14, fun _ => .pointer (some ⟨R, 0, none⟩)), (some 15, fun _ => .agg #[.int .u8 ((s).av), .bool ((s).ab)]), (some 16, fun _ => .agg #[.int .u8 (v), .bool (b)]), (some 17, fun _ => .tuple #[.agg #[.int .u8 (adcV ((s).av) (255 - (v)) (cI ((s).p))), .bool (((s).ab) || ((b) || hasV ((s).ps) 1))], .agg #[.int .u8 (adcP ((s).p) ((s).av) (255 - (v)) (cI ((s).p))), .int .u8 (adcS ((s).ps) (((s).ab) || ((b) || hasV ((s).ps) 1)))]]), (some 18, fun _ => .agg #[.int .u8 (adcV ((s).av) (255 - (v)) (cI ((s).p))), .bool (((s).ab) || ((b) || hasV ((s).ps) 1))]), (some 19, fun _ => .agg #[.int .u8 (adcP ((s).p) ((s).av) (255 - (v)) (cI ((s).p))), .int .u8 (adcS ((s).ps) (((s).ab) || ((b) || hasV ((s).ps) 1)))]), (some 20, fun _ => .agg #[.int .u8 (adcV ((s).av) (255 - (v)) (cI ((s).p))), .bool (((s).ab) || ((b) || hasV ((s).ps) 1))]), (some 21, fun _ => .pointer (some ⟨R, 0, none⟩)), (some 22, fun _ => .pointer (some ⟨R, 0, none⟩)), (some 23, fun _ => .pointer (some ⟨R, 0, none⟩)), (none, fun _ => undef)] (fun D bq w => Mem _ _ _ w ([(R1, #[.int .u8 (v), .bool (b)]), (R, cond (D 20) (wkC ((({ s with p := adcP ((s).p) ((s).av) (255 - (v)) (cI ((s).p)), ps := adcS ((s).ps) (((s).ab) || ((b) || hasV ((s).ps) 1)) } : Wk)).uA (adcV ((s).av) (255 - (v)) (cI ((s).p))) (((s).ab) || ((b) || hasV ((s).ps) 1)))) (cond (D 16) (wkC (({ s with p := adcP ((s).p) ((s).av) (255 - (v)) (cI ((s).p)), ps := adcS ((s).ps) (((s).ab) || ((b) || hasV ((s).ps) 1)) } : Wk))) (wkC (s))))])) 24 (by rfl) (by rfl) (by rfl) H.drew ⟨⟨rfl, ?p0⟩, ⟨rfl, ?p1⟩, ⟨rfl, ?p2⟩, ⟨rfl, ?p3⟩, ⟨rfl, ?p4⟩, ⟨rfl, ?p5⟩, ⟨rfl, ?p6⟩, ⟨rfl, ?p7⟩, ⟨rfl, ?p8⟩, ⟨rfl, ?p9⟩, ⟨rfl, ?p10⟩, ⟨rfl, ?p11⟩, ⟨rfl, ?p12⟩, ⟨rfl, ?p13⟩, ⟨rfl, ?p14⟩, ⟨rfl, ?p15⟩, ⟨rfl, ?p16⟩, ⟨rfl, ?p17⟩, ⟨rfl, ?p18⟩, ⟨rfl, ?p19⟩, ⟨rfl, ?p20⟩, trivial⟩ ?_
  case p0 =>
    intro D bq a' w' hk hc he hl hW
    (try dsimp only at hW)
    have f0 : a'.tmps.getD 0 undef = .pointer (some ⟨R, 0, none⟩) := (hl 0).trans ((vsx_no rfl).trans rfl)
    exact wp_val (.pointer (some ⟨R, 0, none⟩)) (by simp only [execOp, Act.eval, List.map_toArray, List.map_cons, List.map_nil]; rw [f0]; kernel_rfl) ⟨0, rfl, hW⟩
  case p1 =>
    intro D bq a' w' hk hc he hl hW
    (try dsimp only at hW)
    have f0 : a'.tmps.getD 0 undef = .pointer (some ⟨R, 0, none⟩) := (hl 0).trans ((vsx_no rfl).trans rfl)
    exact wp_val (.pointer (some ⟨R, 0, none⟩)) (by simp only [execOp, Act.eval, List.map_toArray, List.map_cons, List.map_nil]; rw [f0]; kernel_rfl) ⟨0, rfl, hW⟩
  case p2 =>
    intro D bq a' w' hk hc he hl hW
    (try dsimp only at hW)
    have f0 : a'.tmps.getD 0 undef = .pointer (some ⟨R, 0, none⟩) := (hl 0).trans ((vsx_no rfl).trans rfl)
    exact wp_val (.pointer (some ⟨R, 0, none⟩)) (by simp only [execOp, Act.eval, List.map_toArray, List.map_cons, List.map_nil]; rw [f0]; kernel_rfl) ⟨0, rfl, hW⟩
  case p3 =>
    intro D bq a' w' hk hc he hl hW
    (try dsimp only at hW)
    have e2 : a'.tmps.getD 6 undef = .pointer (some ⟨R, 0, none⟩) := (hl 6).trans (vsx_at (f := fun _ => .pointer (some ⟨R, 0, none⟩)) rfl (he ⟨2, .data⟩ (by simp) rfl) rfl)
    exact wp_val (.pointer (some ⟨R, 0, none⟩)) (by simp only [execOp, Act.eval, List.map_toArray, List.map_cons, List.map_nil]; rw [e2]; kernel_rfl) ⟨0, rfl, hW⟩
  case p4 =>
    intro D bq a' w' hk hc he hl hW
    (try dsimp only at hW)
    have e3 : a'.tmps.getD 7 undef = .pointer (some ⟨R, 0, none⟩) := (hl 7).trans (vsx_at (f := fun _ => .pointer (some ⟨R, 0, none⟩)) rfl (he ⟨3, .data⟩ (by simp) rfl) rfl)
    exact wp_val (.pointer (some ⟨R, 0, none⟩)) (by simp only [execOp, Act.eval, List.map_toArray, List.map_cons, List.map_nil]; rw [e3]; kernel_rfl) ⟨0, rfl, hW⟩
  case p5 =>
    intro D bq a' w' hk hc he hl hW
    (try dsimp only at hW)
    have e4 : a'.tmps.getD 8 undef = .pointer (some ⟨R, 0, none⟩) := (hl 8).trans (vsx_at (f := fun _ => .pointer (some ⟨R, 0, none⟩)) rfl (he ⟨4, .data⟩ (by simp) rfl) rfl)
    exact wp_val (.pointer (some ⟨R, 8, none⟩)) (by simp only [execOp, Act.eval, List.map_toArray, List.map_cons, List.map_nil]; rw [e4]; kernel_rfl) ⟨0, rfl, hW⟩
  case p6 =>
    intro D bq a' w' hk hc he hl hW
    (try dsimp only at hW)
    have e5 : a'.tmps.getD 9 undef = .pointer (some ⟨R, 8, none⟩) := (hl 9).trans (vsx_at (f := fun _ => .pointer (some ⟨R, 8, none⟩)) rfl (he ⟨5, .data⟩ (by simp) rfl) rfl)
    have n13 : D 13 = false := hc.no .data hk rfl (by simp) rfl
    have n16 : D 16 = false := hc.no .chain n13 rfl (by simp) rfl
    have n20 : D 20 = false := hc.no .phase hk rfl (by simp) rfl
    have hM := hW
    simp only [hk, n16, n20, cond_false, cond_true] at hM
    exact wp_sload _ _ rfl _ _ e5 1 hM (wkC (s)) (#[.int .u8 ((s).p), .int .u8 ((s).ps)]) rfl (by kernel_rfl) (by kernel_rfl) (part2 rfl rfl) ⟨0, rfl, hW⟩
  case p7 =>
    intro D bq a' w' hk hc he hl hW
    (try dsimp only at hW)
    have f0 : a'.tmps.getD 0 undef = .pointer (some ⟨R, 0, none⟩) := (hl 0).trans ((vsx_no rfl).trans rfl)
    exact wp_val (.pointer (some ⟨R, 0, none⟩)) (by simp only [execOp, Act.eval, List.map_toArray, List.map_cons, List.map_nil]; rw [f0]; kernel_rfl) ⟨0, rfl, hW⟩
  case p8 =>
    intro D bq a' w' hk hc he hl hW
    (try dsimp only at hW)
    have e7 : a'.tmps.getD 11 undef = .pointer (some ⟨R, 0, none⟩) := (hl 11).trans (vsx_at (f := fun _ => .pointer (some ⟨R, 0, none⟩)) rfl (he ⟨7, .data⟩ (by simp) rfl) rfl)
    exact wp_val (.pointer (some ⟨R, 0, none⟩)) (by simp only [execOp, Act.eval, List.map_toArray, List.map_cons, List.map_nil]; rw [e7]; kernel_rfl) ⟨0, rfl, hW⟩
  case p9 =>
    intro D bq a' w' hk hc he hl hW
    (try dsimp only at hW)
    have e8 : a'.tmps.getD 12 undef = .pointer (some ⟨R, 0, none⟩) := (hl 12).trans (vsx_at (f := fun _ => .pointer (some ⟨R, 0, none⟩)) rfl (he ⟨8, .data⟩ (by simp) rfl) rfl)
    exact wp_val (.pointer (some ⟨R, 0, none⟩)) (by simp only [execOp, Act.eval, List.map_toArray, List.map_cons, List.map_nil]; rw [e8]; kernel_rfl) ⟨0, rfl, hW⟩
  case p10 =>
    intro D bq a' w' hk hc he hl hW
    (try dsimp only at hW)
    have e9 : a'.tmps.getD 13 undef = .pointer (some ⟨R, 0, none⟩) := (hl 13).trans (vsx_at (f := fun _ => .pointer (some ⟨R, 0, none⟩)) rfl (he ⟨9, .data⟩ (by simp) rfl) rfl)
    exact wp_val (.pointer (some ⟨R, 0, none⟩)) (by simp only [execOp, Act.eval, List.map_toArray, List.map_cons, List.map_nil]; rw [e9]; kernel_rfl) ⟨0, rfl, hW⟩
  case p11 =>
    intro D bq a' w' hk hc he hl hW
    (try dsimp only at hW)
    have e10 : a'.tmps.getD 14 undef = .pointer (some ⟨R, 0, none⟩) := (hl 14).trans (vsx_at (f := fun _ => .pointer (some ⟨R, 0, none⟩)) rfl (he ⟨10, .data⟩ (by simp) rfl) rfl)
    have n13 : D 13 = false := hc.no .data hk rfl (by simp) rfl
    have n16 : D 16 = false := hc.no .chain n13 rfl (by simp) rfl
    have n20 : D 20 = false := hc.no .phase hk rfl (by simp) rfl
    have hM := hW
    simp only [hk, n16, n20, cond_false, cond_true] at hM
    exact wp_sload _ _ rfl _ _ e10 1 hM (wkC (s)) (#[.int .u8 ((s).av), .bool ((s).ab)]) rfl (by kernel_rfl) (by kernel_rfl) (part2 rfl rfl) ⟨0, rfl, hW⟩
  case p12 =>
    intro D bq a' w' hk hc he hl hW
    (try dsimp only at hW)
    have f3 : a'.tmps.getD 3 undef = .pointer (some ⟨R1, 0, none⟩) := (hl 3).trans ((vsx_no rfl).trans rfl)
    have hM := hW
    exact wp_sload _ _ rfl _ _ f3 0 hM (#[.int .u8 (v), .bool (b)]) (#[.int .u8 (v), .bool (b)]) rfl (by kernel_rfl) (by kernel_rfl) (part2 rfl rfl) ⟨0, rfl, hW⟩
  case p13 =>
    intro D bq a' w' hk hc he hl hW
    (try dsimp only at hW)
    have e6 : a'.tmps.getD 10 undef = .agg #[.int .u8 ((s).p), .int .u8 ((s).ps)] := (hl 10).trans (vsx_at (f := fun _ => .agg #[.int .u8 ((s).p), .int .u8 ((s).ps)]) rfl (he ⟨6, .data⟩ (by simp) rfl) rfl)
    have e11 : a'.tmps.getD 15 undef = .agg #[.int .u8 ((s).av), .bool ((s).ab)] := (hl 15).trans (vsx_at (f := fun _ => .agg #[.int .u8 ((s).av), .bool ((s).ab)]) rfl (he ⟨11, .data⟩ (by simp) rfl) rfl)
    have e12 : a'.tmps.getD 16 undef = .agg #[.int .u8 (v), .bool (b)] := (hl 16).trans (vsx_at (f := fun _ => .agg #[.int .u8 (v), .bool (b)]) rfl (he ⟨12, .data⟩ (by simp) rfl) rfl)
    refine wp_callp (vals := #[.agg #[.int .u8 ((s).p), .int .u8 ((s).ps)], .agg #[.int .u8 ((s).av), .bool ((s).ab)], .agg #[.int .u8 (v), .bool (b)]]) rfl rfl (by simp only [List.map_toArray, List.map_cons, List.map_nil, Act.eval, e6, e11, e12]) (by kernel_rfl) (asbc_ct ((s).p) ((s).ps) ((s).av) ((s).ab) (v) (b) w' (by first | assumption | decide | omega) (by first | assumption | decide | omega) (by first | assumption | decide | omega) (by first | assumption | decide | omega) (by first | assumption | decide | omega) (by first | assumption | decide | omega) (by first | assumption | decide | omega) (by first | assumption | decide | omega)) ?_
    rintro e w2 ⟨rfl, hB⟩
    exact ⟨_, rfl, 0, rfl, Mem.next hW hB⟩
  case p14 =>
    intro D bq a' w' hk hc he hl hW
    (try dsimp only at hW)
    have e13 : a'.tmps.getD 17 undef = .tuple #[.agg #[.int .u8 (adcV ((s).av) (255 - (v)) (cI ((s).p))), .bool (((s).ab) || ((b) || hasV ((s).ps) 1))], .agg #[.int .u8 (adcP ((s).p) ((s).av) (255 - (v)) (cI ((s).p))), .int .u8 (adcS ((s).ps) (((s).ab) || ((b) || hasV ((s).ps) 1)))]] := (hl 17).trans (vsx_at (f := fun _ => .tuple #[.agg #[.int .u8 (adcV ((s).av) (255 - (v)) (cI ((s).p))), .bool (((s).ab) || ((b) || hasV ((s).ps) 1))], .agg #[.int .u8 (adcP ((s).p) ((s).av) (255 - (v)) (cI ((s).p))), .int .u8 (adcS ((s).ps) (((s).ab) || ((b) || hasV ((s).ps) 1)))]]) rfl (he ⟨13, .data⟩ (by simp) rfl) rfl)
    exact wp_val (.agg #[.int .u8 (adcV ((s).av) (255 - (v)) (cI ((s).p))), .bool (((s).ab) || ((b) || hasV ((s).ps) 1))]) (by simp only [execOp, Act.eval, List.map_toArray, List.map_cons, List.map_nil]; rw [e13]; kernel_rfl) ⟨0, rfl, hW⟩
  case p15 =>
    intro D bq a' w' hk hc he hl hW
    (try dsimp only at hW)
    have e13 : a'.tmps.getD 17 undef = .tuple #[.agg #[.int .u8 (adcV ((s).av) (255 - (v)) (cI ((s).p))), .bool (((s).ab) || ((b) || hasV ((s).ps) 1))], .agg #[.int .u8 (adcP ((s).p) ((s).av) (255 - (v)) (cI ((s).p))), .int .u8 (adcS ((s).ps) (((s).ab) || ((b) || hasV ((s).ps) 1)))]] := (hl 17).trans (vsx_at (f := fun _ => .tuple #[.agg #[.int .u8 (adcV ((s).av) (255 - (v)) (cI ((s).p))), .bool (((s).ab) || ((b) || hasV ((s).ps) 1))], .agg #[.int .u8 (adcP ((s).p) ((s).av) (255 - (v)) (cI ((s).p))), .int .u8 (adcS ((s).ps) (((s).ab) || ((b) || hasV ((s).ps) 1)))]]) rfl (he ⟨13, .data⟩ (by simp) rfl) rfl)
    exact wp_val (.agg #[.int .u8 (adcP ((s).p) ((s).av) (255 - (v)) (cI ((s).p))), .int .u8 (adcS ((s).ps) (((s).ab) || ((b) || hasV ((s).ps) 1)))]) (by simp only [execOp, Act.eval, List.map_toArray, List.map_cons, List.map_nil]; rw [e13]; kernel_rfl) ⟨0, rfl, hW⟩
  case p16 =>
    intro D bq a' w' hk hc he hl hW
    (try dsimp only at hW)
    have e1 : a'.tmps.getD 5 undef = .pointer (some ⟨R, 0, none⟩) := (hl 5).trans (vsx_at (f := fun _ => .pointer (some ⟨R, 0, none⟩)) rfl (he ⟨1, .data⟩ (by simp) rfl) rfl)
    have e14 : a'.tmps.getD 18 undef = .agg #[.int .u8 (adcV ((s).av) (255 - (v)) (cI ((s).p))), .bool (((s).ab) || ((b) || hasV ((s).ps) 1))] := (hl 18).trans (vsx_at (f := fun _ => .agg #[.int .u8 (adcV ((s).av) (255 - (v)) (cI ((s).p))), .bool (((s).ab) || ((b) || hasV ((s).ps) 1))]) rfl (he ⟨14, .data⟩ (by simp) rfl) rfl)
    have e15 : a'.tmps.getD 19 undef = .agg #[.int .u8 (adcP ((s).p) ((s).av) (255 - (v)) (cI ((s).p))), .int .u8 (adcS ((s).ps) (((s).ab) || ((b) || hasV ((s).ps) 1)))] := (hl 19).trans (vsx_at (f := fun _ => .agg #[.int .u8 (adcP ((s).p) ((s).av) (255 - (v)) (cI ((s).p))), .int .u8 (adcS ((s).ps) (((s).ab) || ((b) || hasV ((s).ps) 1)))]) rfl (he ⟨15, .data⟩ (by simp) rfl) rfl)
    have n20 : D 20 = false := hc.no .data hk rfl (by simp) rfl
    have hM := hW
    simp only [hk, n20, cond_false, cond_true] at hM
    obtain ⟨T9, hT⟩ := Mem.get hM (i := 1) rfl
    refine wp_callp (vals := #[.pointer (some ⟨R, 0, none⟩), .agg #[.int .u8 (adcV ((s).av) (255 - (v)) (cI ((s).p))), .bool (((s).ab) || ((b) || hasV ((s).ps) 1))], .agg #[.int .u8 (adcP ((s).p) ((s).av) (255 - (v)) (cI ((s).p))), .int .u8 (adcS ((s).ps) (((s).ab) || ((b) || hasV ((s).ps) 1)))]]) rfl rfl (by simp only [List.map_toArray, List.map_cons, List.map_nil, Act.eval, e1, e14, e15]) (by kernel_rfl) (with_ct s (adcV ((s).av) (255 - (v)) (cI ((s).p))) (((s).ab) || ((b) || hasV ((s).ps) 1)) (adcP ((s).p) ((s).av) (255 - (v)) (cI ((s).p))) (adcS ((s).ps) (((s).ab) || ((b) || hasV ((s).ps) 1))) _ T9 w' hT) ?_
    rintro e w2 ⟨rfl, hm⟩
    refine ⟨_, rfl, 0, rfl, ?_⟩
    (try dsimp only)
    have z20 : doneB D 16 20 = false := n20
    simp only [z20, cond_false]
    exact (Mem.call hM (i := 1) rfl hm)
  case p17 =>
    intro D bq a' w' hk hc he hl hW
    (try dsimp only at hW)
    have e0 : a'.tmps.getD 4 undef = .pointer (some ⟨R, 0, none⟩) := (hl 4).trans (vsx_at (f := fun _ => .pointer (some ⟨R, 0, none⟩)) rfl (he ⟨0, .data⟩ (by simp) rfl) rfl)
    exact wp_val (.pointer (some ⟨R, 0, none⟩)) (by simp only [execOp, Act.eval, List.map_toArray, List.map_cons, List.map_nil]; rw [e0]; kernel_rfl) ⟨0, rfl, hW⟩
  case p18 =>
    intro D bq a' w' hk hc he hl hW
    (try dsimp only at hW)
    have e17 : a'.tmps.getD 21 undef = .pointer (some ⟨R, 0, none⟩) := (hl 21).trans (vsx_at (f := fun _ => .pointer (some ⟨R, 0, none⟩)) rfl (he ⟨17, .data⟩ (by simp) rfl) rfl)
    exact wp_val (.pointer (some ⟨R, 0, none⟩)) (by simp only [execOp, Act.eval, List.map_toArray, List.map_cons, List.map_nil]; rw [e17]; kernel_rfl) ⟨0, rfl, hW⟩
  case p19 =>
    intro D bq a' w' hk hc he hl hW
    (try dsimp only at hW)
    have e18 : a'.tmps.getD 22 undef = .pointer (some ⟨R, 0, none⟩) := (hl 22).trans (vsx_at (f := fun _ => .pointer (some ⟨R, 0, none⟩)) rfl (he ⟨18, .data⟩ (by simp) rfl) rfl)
    exact wp_val (.pointer (some ⟨R, 0, none⟩)) (by simp only [execOp, Act.eval, List.map_toArray, List.map_cons, List.map_nil]; rw [e18]; kernel_rfl) ⟨0, rfl, hW⟩
  case p20 =>
    intro D bq a' w' hk hc he hl hW
    (try dsimp only at hW)
    have e19 : a'.tmps.getD 23 undef = .pointer (some ⟨R, 0, none⟩) := (hl 23).trans (vsx_at (f := fun _ => .pointer (some ⟨R, 0, none⟩)) rfl (he ⟨19, .data⟩ (by simp) rfl) rfl)
    have e16 : a'.tmps.getD 20 undef = .agg #[.int .u8 (adcV ((s).av) (255 - (v)) (cI ((s).p))), .bool (((s).ab) || ((b) || hasV ((s).ps) 1))] := (hl 20).trans (vsx_at (f := fun _ => .agg #[.int .u8 (adcV ((s).av) (255 - (v)) (cI ((s).p))), .bool (((s).ab) || ((b) || hasV ((s).ps) 1))]) rfl (he ⟨16, .data⟩ (by simp) rfl) rfl)
    have y16 : D 16 = true := he ⟨16, .data⟩ (by simp) rfl
    have hM := hW
    simp only [hk, y16, cond_false, cond_true] at hM
    refine wp_sstore1 _ _ _ rfl rfl R 0 e19 1 hM (wkC (({ s with p := adcP ((s).p) ((s).av) (255 - (v)) (cI ((s).p)), ps := adcS ((s).ps) (((s).ab) || ((b) || hasV ((s).ps) 1)) } : Wk))) (wkC ((({ s with p := adcP ((s).p) ((s).av) (255 - (v)) (cI ((s).p)), ps := adcS ((s).ps) (((s).ab) || ((b) || hasV ((s).ps) 1)) } : Wk)).uA (adcV ((s).av) (255 - (v)) (cI ((s).p))) (((s).ab) || ((b) || hasV ((s).ps) 1)))) rfl (.agg #[.int .u8 (adcV ((s).av) (255 - (v)) (cI ((s).p))), .bool (((s).ab) || ((b) || hasV ((s).ps) 1))]) e16 (by kernel_rfl) (of_decide_eq_true (by kernel_rfl)) (by kernel_rfl) (st_A _ _ _) fun w1 hM1 => ⟨0, rfl, ?_⟩
    exact hM1
  intro D bq w' hD hW
  (try dsimp only at hW)
  simp only [hD 16 (by decide), hD 20 (by decide), cond_true] at hW
  clear H hD
  have H := hW
  clear hW
  simp only [putAll, vsOf, Nat.reduceAdd, List.foldl_cons, List.foldl_nil, Act.put, List.setIfInBounds_toArray, List.set_cons_succ, List.set_cons_zero]
  (try simp only [IntKind.wrap_u16, IntKind.wrap_u8] at H)
  all_goals (first | refine fall rfl rfl ?_ | refine fallr rfl rfl ?_)
  all_goals (refine ⟨rfl, ?_⟩; first | exact H.only (i := 1) rfl)

set_option maxHeartbeats 2000000 in
theorem k_arr (s : Wk) (v : Int) (b : Bool) (F : Fiw s) (g0 : 0 ≤ v) (g1 : v < 256) : CB 212 s ({ s with av := arrV s.av v (cI s.p), ab := s.ab || b || hasV s.ps 1, p := arrP s.p s.av v (cI s.p), ps := arrS s.ps (s.ab || b) (hasV s.ps 1) }) v b := by
  intro R T w hR
  have FF := F
  obtain ⟨⟨a0, a1, x0, x1, y0, y1, s0, s1, p0, p1, q0, q1, cp, cq, pc0, pc1, op0, op1, ad0, ad1, d0, d1⟩, v0, v1⟩ := F
  have F := FF
  clear cp cq FF
  have o8 := bothV_le s.av s.xv a0 a1 x0 x1
  have o9 : 0 ≤ bits .and .u8 (s.av) (s.xv) := o8.1
  have o10 : bits .and .u8 (s.av) (s.xv) < 256 := o8.2
  have HZB := Lib.hid alloc_by
  have HZU := Lib.hid alloc_bus
  have H := Mem.begin hR
  clear hR
  have MR1 : True := trivial
  go_enter Tryz.func212, Tryz.ntmps212
  go_wp2_with (first | (refine wpList_mboxA rfl _ _ rfl H _ rfl ?_; clear H; (first | (clear MR1; intro R1 w1 _ H))) | go_skip | fail)
  (try simp only [Act.put, List.setIfInBounds_toArray, List.set_cons_succ, List.set_cons_zero])
  refine wp_region_x (by kernel_rfl) (by kernel_rfl) [(some 4, fun _ => .pointer (some ⟨R, 0, none⟩)), (some 5, fun _ => .pointer (some ⟨R, 0, none⟩)), (some 6, fun _ => .pointer (some ⟨R, 0, none⟩)), (some 7, fun _ => .pointer (some ⟨R, 0, none⟩)), (some 8, fun _ => .pointer (some ⟨R, 0, none⟩)), (some 9, fun _ => .pointer (some ⟨R, 8, none⟩)), (some 10, fun _ => .agg #[.int .u8 ((s).p), .int .u8 ((s).ps)]), (some 11, fun _ => .pointer (some ⟨R, 0, none⟩)), (some 12, fun _ => .pointer (some ⟨R, 0, none⟩)), (some 13, fun _ => .pointer (some ⟨R, 0, none⟩)), (some 14, fun _ => .pointer (some ⟨R, 0, none⟩)), (some 15, fun _ => .agg #[.int .u8 ((s).av), .bool ((s).ab)]), (some 16, fun _ => .agg #[.int .u8 (v), .bool (b)]), (some 17, fun _ => .tuple #[.agg #[.int .u8 (arrV ((s).av) (v) (cI ((s).p))), .bool (((s).ab) || (b) || hasV ((s).ps) 1)], .agg #[.int .u8 (arrP ((s).p) ((s).av) (v) (cI ((s).p))), .int .u8 (arrS ((s).ps) (((s).ab) || (b)) (hasV ((s).ps) 1))]]), (some 18, fun _ => .agg #[.int .u8 (arrV ((s).av) (v) (cI ((s).p))), .bool (((s).ab) || (b) || hasV ((s).ps) 1)]), (some 19, fun _ => .agg #[.int .u8 (arrP ((s).p) ((s).av) (v) (cI ((s).p))), .int .u8 (arrS ((s).ps) (((s).ab) || (b)) (hasV ((s).ps) 1))]), (some 20, fun _ => .agg #[.int .u8 (arrV ((s).av) (v) (cI ((s).p))), .bool (((s).ab) || (b) || hasV ((s).ps) 1)]), (some 21, fun _ => .pointer (some ⟨R, 0, none⟩)), (some 22, fun _ => .pointer (some ⟨R, 0, none⟩)), (some 23, fun _ => .pointer (some ⟨R, 0, none⟩)), (none, fun _ => undef)] (fun D bq w => Mem _ _ _ w ([(R1, #[.int .u8 (v), .bool (b)]), (R, cond (D 20) (wkC ((({ s with p := arrP ((s).p) ((s).av) (v) (cI ((s).p)), ps := arrS ((s).ps) (((s).ab) || (b)) (hasV ((s).ps) 1) } : Wk)).uA (arrV ((s).av) (v) (cI ((s).p))) (((s).ab) || (b) || hasV ((s).ps) 1))) (cond (D 16) (wkC (({ s with p := arrP ((s).p) ((s).av) (v) (cI ((s).p)), ps := arrS ((s).ps) (((s).ab) || (b)) (hasV ((s).ps) 1) } : Wk))) (wkC (s))))])) 24 (by rfl) (by rfl) (by rfl) H.drew ⟨⟨rfl, ?p0⟩, ⟨rfl, ?p1⟩, ⟨rfl, ?p2⟩, ⟨rfl, ?p3⟩, ⟨rfl, ?p4⟩, ⟨rfl, ?p5⟩, ⟨rfl, ?p6⟩, ⟨rfl, ?p7⟩, ⟨rfl, ?p8⟩, ⟨rfl, ?p9⟩, ⟨rfl, ?p10⟩, ⟨rfl, ?p11⟩, ⟨rfl, ?p12⟩, ⟨rfl, ?p13⟩, ⟨rfl, ?p14⟩, ⟨rfl, ?p15⟩, ⟨rfl, ?p16⟩, ⟨rfl, ?p17⟩, ⟨rfl, ?p18⟩, ⟨rfl, ?p19⟩, ⟨rfl, ?p20⟩, trivial⟩ ?_
  case p0 =>
    intro D bq a' w' hk hc he hl hW
    (try dsimp only at hW)
    have f0 : a'.tmps.getD 0 undef = .pointer (some ⟨R, 0, none⟩) := (hl 0).trans ((vsx_no rfl).trans rfl)
    exact wp_val (.pointer (some ⟨R, 0, none⟩)) (by simp only [execOp, Act.eval, List.map_toArray, List.map_cons, List.map_nil]; rw [f0]; kernel_rfl) ⟨0, rfl, hW⟩
  case p1 =>
    intro D bq a' w' hk hc he hl hW
    (try dsimp only at hW)
    have f0 : a'.tmps.getD 0 undef = .pointer (some ⟨R, 0, none⟩) := (hl 0).trans ((vsx_no rfl).trans rfl)
    exact wp_val (.pointer (some ⟨R, 0, none⟩)) (by simp only [execOp, Act.eval, List.map_toArray, List.map_cons, List.map_nil]; rw [f0]; kernel_rfl) ⟨0, rfl, hW⟩
  case p2 =>
    intro D bq a' w' hk hc he hl hW
    (try dsimp only at hW)
    have f0 : a'.tmps.getD 0 undef = .pointer (some ⟨R, 0, none⟩) := (hl 0).trans ((vsx_no rfl).trans rfl)
    exact wp_val (.pointer (some ⟨R, 0, none⟩)) (by simp only [execOp, Act.eval, List.map_toArray, List.map_cons, List.map_nil]; rw [f0]; kernel_rfl) ⟨0, rfl, hW⟩
  case p3 =>
    intro D bq a' w' hk hc he hl hW
    (try dsimp only at hW)
    have e2 : a'.tmps.getD 6 undef = .pointer (some ⟨R, 0, none⟩) := (hl 6).trans (vsx_at (f := fun _ => .pointer (some ⟨R, 0, none⟩)) rfl (he ⟨2, .data⟩ (by simp) rfl) rfl)
    exact wp_val (.pointer (some ⟨R, 0, none⟩)) (by simp only [execOp, Act.eval, List.map_toArray, List.map_cons, List.map_nil]; rw [e2]; kernel_rfl) ⟨0, rfl, hW⟩
  case p4 =>
    intro D bq a' w' hk hc he hl hW
    (try dsimp only at hW)
    have e3 : a'.tmps.getD 7 undef = .pointer (some ⟨R, 0, none⟩) := (hl 7).trans (vsx_at (f := fun _ => .pointer (some ⟨R, 0, none⟩)) rfl (he ⟨3, .data⟩ (by simp) rfl) rfl)
    exact wp_val (.pointer (some ⟨R, 0, none⟩)) (by simp only [execOp, Act.eval, List.map_toArray, List.map_cons, List.map_nil]; rw [e3]; kernel_rfl) ⟨0, rfl, hW⟩
  case p5 =>
    intro D bq a' w' hk hc he hl hW
    (try dsimp only at hW)
    have e4 : a'.tmps.getD 8 undef = .pointer (some ⟨R, 0, none⟩) := (hl 8).trans (vsx_at (f := fun _ => .pointer (some ⟨R, 0, none⟩)) rfl (he ⟨4, .data⟩ (by simp) rfl) rfl)
    exact wp_val (.pointer (some ⟨R, 8, none⟩)) (by simp only [execOp, Act.eval, List.map_toArray, List.map_cons, List.map_nil]; rw [e4]; kernel_rfl) ⟨0, rfl, hW⟩
  case p6 =>
    intro D bq a' w' hk hc he hl hW
    (try dsimp only at hW)
    have e5 : a'.tmps.getD 9 undef = .pointer (some ⟨R, 8, none⟩) := (hl 9).trans (vsx_at (f := fun _ => .pointer (some ⟨R, 8, none⟩)) rfl (he ⟨5, .data⟩ (by simp) rfl) rfl)
    have n13 : D 13 = false := hc.no .data hk rfl (by simp) rfl
    have n16 : D 16 = false := hc.no .chain n13 rfl (by simp) rfl
    have n20 : D 20 = false := hc.no .phase hk rfl (by simp) rfl
    have hM := hW
    simp only [hk, n16, n20, cond_false, cond_true] at hM
    exact wp_sload _ _ rfl _ _ e5 1 hM (wkC (s)) (#[.int .u8 ((s).p), .int .u8 ((s).ps)]) rfl (by kernel_rfl) (by kernel_rfl) (part2 rfl rfl) ⟨0, rfl, hW⟩
  case p7 =>
    intro D bq a' w' hk hc he hl hW
    (try dsimp only at hW)
    have f0 : a'.tmps.getD 0 undef = .pointer (some ⟨R, 0, none⟩) := (hl 0).trans ((vsx_no rfl).trans rfl)
    exact wp_val (.pointer (some ⟨R, 0, none⟩)) (by simp only [execOp, Act.eval, List.map_toArray, List.map_cons, List.map_nil]; rw [f0]; kernel_rfl) ⟨0, rfl, hW⟩
  case p8 =>
    intro D bq a' w' hk hc he hl hW
    (try dsimp only at hW)
    have e7 : a'.tmps.getD 11 undef = .pointer (some ⟨R, 0, none⟩) := (hl 11).trans (vsx_at (f := fun _ => .pointer (some ⟨R, 0, none⟩)) rfl (he ⟨7, .data⟩ (by simp) rfl) rfl)
    exact wp_val (.pointer (some ⟨R, 0, none⟩)) (by simp only [execOp, Act.eval, List.map_toArray, List.map_cons, List.map_nil]; rw [e7]; kernel_rfl) ⟨0, rfl, hW⟩
  case p9 =>
    intro D bq a' w' hk hc he hl hW
    (try dsimp only at hW)
    have e8 : a'.tmps.getD 12 undef = .pointer (some ⟨R, 0, none⟩) := (hl 12).trans (vsx_at (f := fun _ => .pointer (some ⟨R, 0, none⟩)) rfl (he ⟨8, .data⟩ (by simp) rfl) rfl)
    exact wp_val (.pointer (some ⟨R, 0, none⟩)) (by simp only [execOp, Act.eval, List.map_toArray, List.map_cons, List.map_nil]; rw [e8]; kernel_rfl) ⟨0, rfl, hW⟩
  case p10 =>
    intro D bq a' w' hk hc he hl hW
    (try dsimp only at hW)
    have e9 : a'.tmps.getD 13 undef = .pointer (some ⟨R, 0, none⟩) := (hl 13).trans (vsx_at (f := fun _ => .pointer (some ⟨R, 0, none⟩)) rfl (he ⟨9, .data⟩ (by simp) rfl) rfl)
    exact wp_val (.pointer (some ⟨R, 0, none⟩)) (by simp only [execOp, Act.eval, List.map_toArray, List.map_cons, List.map_nil]; rw [e9]; kernel_rfl) ⟨0, rfl, hW⟩
  case p11 =>
    intro D bq a' w' hk hc he hl hW
    (try dsimp only at hW)
    have e10 : a'.tmps.getD 14 undef = .pointer (some ⟨R, 0, none⟩) := (hl 14).trans (vsx_at (f := fun _ => .pointer (some ⟨R, 0, none⟩)) rfl (he ⟨10, .data⟩ (by simp) rfl) rfl)
    have n13 : D 13 = false := hc.no .data hk rfl (by simp) rfl
    have n16 : D 16 = false := hc.no .chain n13 rfl (by simp) rfl
    have n20 : D 20 = false := hc.no .phase hk rfl (by simp) rfl
    have hM := hW
    simp only [hk, n16, n20, cond_false, cond_true] at hM
    exact wp_sload _ _ rfl _ _ e10 1 hM (wkC (s)) (#[.int .u8 ((s).av), .bool ((s).ab)]) rfl (by kernel_rfl) (by kernel_rfl) (part2 rfl rfl) ⟨0, rfl, hW⟩
  case p12 =>
    intro D bq a' w' hk hc he hl hW
    (try dsimp only at hW)
    have f3 : a'.tmps.getD 3 undef = .pointer (some ⟨R1, 0, none⟩) := (hl 3).trans ((vsx_no rfl).trans rfl)
    have hM := hW
    exact wp_sload _ _ rfl _ _ f3 0 hM (#[.int .u8 (v), .bool (b)]) (#[.int .u8 (v), .bool (b)]) rfl (by kernel_rfl) (by kernel_rfl) (part2 rfl rfl) ⟨0, rfl, hW⟩
  case p13 =>
    intro D bq a' w' hk hc he hl hW
    (try dsimp only at hW)
    have e6 : a'.tmps.getD 10 undef = .agg #[.int .u8 ((s).p), .int .u8 ((s).ps)] := (hl 10).trans (vsx_at (f := fun _ => .agg #[.int .u8 ((s).p), .int .u8 ((s).ps)]) rfl (he ⟨6, .data⟩ (by simp) rfl) rfl)
    have e11 : a'.tmps.getD 15 undef = .agg #[.int .u8 ((s).av), .bool ((s).ab)] := (hl 15).trans (vsx_at (f := fun _ => .agg #[.int .u8 ((s).av), .bool ((s).ab)]) rfl (he ⟨11, .data⟩ (by simp) rfl) rfl)
    have e12 : a'.tmps.getD 16 undef = .agg #[.int .u8 (v), .bool (b)] := (hl 16).trans (vsx_at (f := fun _ => .agg #[.int .u8 (v), .bool (b)]) rfl (he ⟨12, .data⟩ (by simp) rfl) rfl)
    refine wp_callp (vals := #[.agg #[.int .u8 ((s).p), .int .u8 ((s).ps)], .agg #[.int .u8 ((s).av), .bool ((s).ab)], .agg #[.int .u8 (v), .bool (b)]]) rfl rfl (by simp only [List.map_toArray, List.map_cons, List.map_nil, Act.eval, e6, e11, e12]) (by kernel_rfl) (aarr_ct ((s).p) ((s).ps) ((s).av) ((s).ab) (v) (b) w' (by first | assumption | decide | omega) (by first | assumption | decide | omega) (by first | assumption | decide | omega) (by first | assumption | decide | omega) (by first | assumption | decide | omega) (by first | assumption | decide | omega) (by first | assumption | decide | omega) (by first | assumption | decide | omega)) ?_
    rintro e w2 ⟨rfl, hB⟩
    exact ⟨_, rfl, 0, rfl, Mem.next hW hB⟩
  case p14 =>
    intro D bq a' w' hk hc he hl hW
    (try dsimp only at hW)
    have e13 : a'.tmps.getD 17 undef = .tuple #[.agg #[.int .u8 (arrV ((s).av) (v) (cI ((s).p))), .bool (((s).ab) || (b) || hasV ((s).ps) 1)], .agg #[.int .u8 (arrP ((s).p) ((s).av) (v) (cI ((s).p))), .int .u8 (arrS ((s).ps) (((s).ab) || (b)) (hasV ((s).ps) 1))]] := (hl 17).trans (vsx_at (f := fun _ => .tuple #[.agg #[.int .u8 (arrV ((s).av) (v) (cI ((s).p))), .bool (((s).ab) || (b) || hasV ((s).ps) 1)], .agg #[.int .u8 (arrP ((s).p) ((s).av) (v) (cI ((s).p))), .int .u8 (arrS ((s).ps) (((s).ab) || (b)) (hasV ((s).ps) 1))]]) rfl (he ⟨13, .data⟩ (by simp) rfl) rfl)
    exact wp_val (.agg #[.int .u8 (arrV ((s).av) (v) (cI ((s).p))), .bool (((s).ab) || (b) || hasV ((s).ps) 1)]) (by simp only [execOp, Act.eval, List.map_toArray, List.map_cons, List.map_nil]; rw [e13]; kernel_rfl) ⟨0, rfl, hW⟩
  case p15 =>
    intro D bq a' w' hk hc he hl hW
    (try dsimp only at hW)
    have e13 : a'.tmps.getD 17 undef = .tuple #[.agg #[.int .u8 (arrV ((s).av) (v) (cI ((s).p))), .bool (((s).ab) || (b) || hasV ((s).ps) 1)], .agg #[.int .u8 (arrP ((s).p) ((s).av) (v) (cI ((s).p))), .int .u8 (arrS ((s).ps) (((s).ab) || (b)) (hasV ((s).ps) 1))]] := (hl 17).trans (vsx_at (f := fun _ => .tuple #[.agg #[.int .u8 (arrV ((s).av) (v) (cI ((s).p))), .bool (((s).ab) || (b) || hasV ((s).ps) 1)], .agg #[.int .u8 (arrP ((s).p) ((s).av) (v) (cI ((s).p))), .int .u8 (arrS ((s).ps) (((s).ab) || (b)) (hasV ((s).ps) 1))]]) rfl (he ⟨13, .data⟩ (by simp) rfl) rfl)
    exact wp_val (.agg #[.int .u8 (arrP ((s).p) ((s).av) (v) (cI ((s).p))), .int .u8 (arrS ((s).ps) (((s).ab) || (b)) (hasV ((s).ps) 1))]) (by simp only [execOp, Act.eval, List.map_toArray, List.map_cons, List.map_nil]; rw [e13]; kernel_rfl) ⟨0, rfl, hW⟩
  case p16 =>
    intro D bq a' w' hk hc he hl hW
    (try dsimp only at hW)
    have e1 : a'.tmps.getD 5 undef = .pointer (some ⟨R, 0, none⟩) := (hl 5).trans (vsx_at (f := fun _ => .pointer (some ⟨R, 0, none⟩)) rfl (he ⟨1, .data⟩ (by simp) rfl) rfl)
    have e14 : a'.tmps.getD 18 undef = .agg #[.int .u8 (arrV ((s).av) (v) (cI ((s).p))), .bool (((s).ab) || (b) || hasV ((s).ps) 1)] := (hl 18).trans (vsx_at (f := fun _ => .agg #[.int .u8 (arrV ((s).av) (v) (cI ((s).p))), .bool (((s).ab) || (b) || hasV ((s).ps) 1)]) rfl (he ⟨14, .data⟩ (by simp) rfl) rfl)
    have e15 : a'.tmps.getD 19 undef = .agg #[.int .u8 (arrP ((s).p) ((s).av) (v) (cI ((s).p))), .int .u8 (arrS ((s).ps) (((s).ab) || (b)) (hasV ((s).ps) 1))] := (hl 19).trans (vsx_at (f := fun _ => .agg #[.int .u8 (arrP ((s).p) ((s).av) (v) (cI ((s).p))), .int .u8 (arrS ((s).ps) (((s).ab) || (b)) (hasV ((s).ps) 1))]) rfl (he ⟨15, .data⟩ (by simp) rfl) rfl)
    have n20 : D 20 = false := hc.no .data hk rfl (by simp) rfl
    have hM := hW
    simp only [hk, n20, cond_false, cond_true] at hM
    obtain ⟨T9, hT⟩ := Mem.get hM (i := 1) rfl
    refine wp_callp (vals := #[.pointer (some ⟨R, 0, none⟩), .agg #[.int .u8 (arrV ((s).av) (v) (cI ((s).p))), .bool (((s).ab) || (b) || hasV ((s).ps) 1)], .agg #[.int .u8 (arrP ((s).p) ((s).av) (v) (cI ((s).p))), .int .u8 (arrS ((s).ps) (((s).ab) || (b)) (hasV ((s).ps) 1))]]) rfl rfl (by simp only [List.map_toArray, List.map_cons, List.map_nil, Act.eval, e1, e14, e15]) (by kernel_rfl) (with_ct s (arrV ((s).av) (v) (cI ((s).p))) (((s).ab) || (b) || hasV ((s).ps) 1) (arrP ((s).p) ((s).av) (v) (cI ((s).p))) (arrS ((s).ps) (((s).ab) || (b)) (hasV ((s).ps) 1)) _ T9 w' hT) ?_
    rintro e w2 ⟨rfl, hm⟩
    refine ⟨_, rfl, 0, rfl, ?_⟩
    (try dsimp only)
    have z20 : doneB D 16 20 = false := n20
    simp only [z20, cond_false]
    exact (Mem.call hM (i := 1) rfl hm)
  case p17 =>
    intro D bq a' w' hk hc he hl hW
    (try dsimp only at hW)
    have e0 : a'.tmps.getD 4 undef = .pointer (some ⟨R, 0, none⟩) := (hl 4).trans (vsx_at (f := fun _ => .pointer (some ⟨R, 0, none⟩)) rfl (he ⟨0, .data⟩ (by simp) rfl) rfl)
    exact wp_val (.pointer (some ⟨R, 0, none⟩)) (by simp only [execOp, Act.eval, List.map_toArray, List.map_cons, List.map_nil]; rw [e0]; kernel_rfl) ⟨0, rfl, hW⟩
  case p18 =>
    intro D bq a' w' hk hc he hl hW
    (try dsimp only at hW)
    have e17 : a'.tmps.getD 21 undef = .pointer (some ⟨R, 0, none⟩) := (hl 21).trans (vsx_at (f := fun _ => .pointer (some ⟨R, 0, none⟩)) rfl (he ⟨17, .data⟩ (by simp) rfl) rfl)
    exact wp_val (.pointer (some ⟨R, 0, none⟩)) (by simp only [execOp, Act.eval, List.map_toArray, List.map_cons, List.map_nil]; rw [e17]; kernel_rfl) ⟨0, rfl, hW⟩
  case p19 =>
    intro D bq a' w' hk hc he hl hW
    (try dsimp only at hW)
    have e18 : a'.tmps.getD 22 undef = .pointer (some ⟨R, 0, none⟩) := (hl 22).trans (vsx_at (f := fun _ => .pointer (some ⟨R, 0, none⟩)) rfl (he ⟨18, .data⟩ (by simp) rfl) rfl)
    exact wp_val (.pointer (some ⟨R, 0, none⟩)) (by simp only [execOp, Act.eval, List.map_toArray, List.map_cons, List.map_nil]; rw [e18]; kernel_rfl) ⟨0, rfl, hW⟩
  case p20 =>
    intro D bq a' w' hk hc he hl hW
    (try dsimp only at hW)
    have e19 : a'.tmps.getD 23 undef = .pointer (some ⟨R, 0, none⟩) := (hl 23).trans (vsx_at (f := fun _ => .pointer (some ⟨R, 0, none⟩)) rfl (he ⟨19, .data⟩ (by simp) rfl) rfl)
    have e16 : a'.tmps.getD 20 undef = .agg #[.int .u8 (arrV ((s).av) (v) (cI ((s).p))), .bool (((s).ab) || (b) || hasV ((s).ps) 1)] := (hl 20).trans (vsx_at (f := fun _ => .agg #[.int .u8 (arrV ((s).av) (v) (cI ((s).p))), .bool (((s).ab) || (b) || hasV ((s).ps) 1)]) rfl (he ⟨16, .data⟩ (by simp) rfl) rfl)
    have y16 : D 16 = true := he ⟨16, .data⟩ (by simp) rfl
    have hM := hW
    simp only [hk, y16, cond_false, cond_true] at hM
    refine wp_sstore1 _ _ _ rfl rfl R 0 e19 1 hM (wkC (({ s with p := arrP ((s).p) ((s).av) (v) (cI ((s).p)), ps := arrS ((s).ps) (((s).ab) || (b)) (hasV ((s).ps) 1) } : Wk))) (wkC ((({ s with p := arrP ((s).p) ((s).av) (v) (cI ((s).p)), ps := arrS ((s).ps) (((s).ab) || (b)) (hasV ((s).ps) 1) } : Wk)).uA (arrV ((s).av) (v) (cI ((s).p))) (((s).ab) || (b) || hasV ((s).ps) 1))) rfl (.agg #[.int .u8 (arrV ((s).av) (v) (cI ((s).p))), .bool (((s).ab) || (b) || hasV ((s).ps) 1)]) e16 (by kernel_rfl) (of_decide_eq_true (by kernel_rfl)) (by kernel_rfl) (st_A _ _ _) fun w1 hM1 => ⟨0, rfl, ?_⟩
    exact hM1
  intro D bq w' hD hW
  (try dsimp only at hW)
  simp only [hD 16 (by decide), hD 20 (by decide), cond_true] at hW
  clear H hD
  have H := hW
  clear hW
  simp only [putAll, vsOf, Nat.reduceAdd, List.foldl_cons, List.foldl_nil, Act.put, List.setIfInBounds_toArray, List.set_cons_succ, List.set_cons_zero]
  (try simp only [IntKind.wrap_u16, IntKind.wrap_u8] at H)
  all_goals (first | refine fall rfl rfl ?_ | refine fallr rfl rfl ?_)
  all_goals (refine ⟨rfl, ?_⟩; first | exact H.only (i := 1) rfl)

set_option maxHeartbeats 2000000 in
theorem k_sbx (s : Wk) (v : Int) (b : Bool) (F : Fiw s) (g0 : 0 ≤ v) (g1 : v < 256) : CB 213 s ({ s with xv := lessV (bothV s.av s.xv) v, xb := s.ab || s.xb || b, p := lessP s.p (bothV s.av s.xv) v, ps := lessS s.ps (s.ab || s.xb || b) }) v b := by
  intro R T w hR
  have FF := F
  obtain ⟨⟨a0, a1, x0, x1, y0, y1, s0, s1, p0, p1, q0, q1, cp, cq, pc0, pc1, op0, op1, ad0, ad1, d0, d1⟩, v0, v1⟩ := F
  have F := FF
  clear cp cq FF
  have o8 := bothV_le s.av s.xv a0 a1 x0 x1
  have o9 : 0 ≤ bits .and .u8 (s.av) (s.xv) := o8.1
  have o10 : bits .and .u8 (s.av) (s.xv) < 256 := o8.2
  have HZB := Lib.hid alloc_by
  have HZU := Lib.hid alloc_bus
  have H := Mem.begin hR
  clear hR
  have MR1 : True := trivial
  go_enter Tryz.func213, Tryz.ntmps213
  go_wp2_with (first | (refine wpList_mboxA rfl _ _ rfl H _ rfl ?_; clear H; (first | (clear MR1; intro R1 w1 _ H))) | go_skip | fail)
  (try simp only [Act.put, List.setIfInBounds_toArray, List.set_cons_succ, List.set_cons_zero])
  refine wp_region_x (by kernel_rfl) (by kernel_rfl) [(some 4, fun _ => .pointer (some ⟨R, 0, none⟩)), (some 5, fun _ => .pointer (some ⟨R, 0, none⟩)), (some 6, fun _ => .pointer (some ⟨R, 0, none⟩)), (some 7, fun _ => .pointer (some ⟨R, 0, none⟩)), (some 8, fun _ => .pointer (some ⟨R, 0, none⟩)), (some 9, fun _ => .pointer (some ⟨R, 8, none⟩)), (some 10, fun _ => .agg #[.int .u8 ((s).p), .int .u8 ((s).ps)]), (some 11, fun _ => .pointer (some ⟨R, 0, none⟩)), (some 12, fun _ => .pointer (some ⟨R, 0, none⟩)), (some 13, fun _ => .pointer (some ⟨R, 0, none⟩)), (some 14, fun _ => .pointer (some ⟨R, 0, none⟩)), (some 15, fun _ => .agg #[.int .u8 ((s).av), .bool ((s).ab)]), (some 16, fun _ => .pointer (some ⟨R, 0, none⟩)), (some 17, fun _ => .pointer (some ⟨R, 0, none⟩)), (some 18, fun _ => .pointer (some ⟨R, 0, none⟩)), (some 19, fun _ => .pointer (some ⟨R, 2, none⟩)), (some 20, fun _ => .agg #[.int .u8 ((s).xv), .bool ((s).xb)]), (some 21, fun _ => .agg #[.int .u8 (bits .and .u8 ((s).av) ((s).xv)), .bool (((s).ab) || ((s).xb))]), (some 22, fun _ => .agg #[.int .u8 (v), .bool (b)]), (some 23, fun _ => .tuple #[.agg #[.int .u8 (lessV (bits .and .u8 ((s).av) ((s).xv)) (v)), .bool ((((s).ab) || ((s).xb)) || (b))], .agg #[.int .u8 (lessP ((s).p) (bits .and .u8 ((s).av) ((s).xv)) (v)), .int .u8 (lessS ((s).ps) ((((s).ab) || ((s).xb)) || (b)))]]), (some 24, fun _ => .agg #[.int .u8 (lessV (bits .and .u8 ((s).av) ((s).xv)) (v)), .bool ((((s).ab) || ((s).xb)) || (b))]), (some 25, fun _ => .agg #[.int .u8 (lessP ((s).p) (bits .and .u8 ((s).av) ((s).xv)) (v)), .int .u8 (lessS ((s).ps) ((((s).ab) || ((s).xb)) || (b)))]), (some 26, fun _ => .agg #[.int .u8 (lessV (bits .and .u8 ((s).av) ((s).xv)) (v)), .bool ((((s).ab) || ((s).xb)) || (b))]), (some 27, fun _ => .pointer (some ⟨R, 0, none⟩)), (some 28, fun _ => .pointer (some ⟨R, 0, none⟩)), (some 29, fun _ => .pointer (some ⟨R, 2, none⟩)), (none, fun _ => undef)] (fun D bq w => Mem _ _ _ w ([(R1, #[.int .u8 (v), .bool (b)]), (R, cond (D 26) (wkC ((({ s with p := lessP ((s).p) (bits .and .u8 ((s).av) ((s).xv)) (v), ps := lessS ((s).ps) ((((s).ab) || ((s).xb)) || (b)) } : Wk)).uX (lessV (bits .and .u8 ((s).av) ((s).xv)) (v)) ((((s).ab) || ((s).xb)) || (b)))) (cond (D 22) (wkC (({ s with p := lessP ((s).p) (bits .and .u8 ((s).av) ((s).xv)) (v), ps := lessS ((s).ps) ((((s).ab) || ((s).xb)) || (b)) } : Wk))) (wkC (s))))])) 30 (by rfl) (by rfl) (by rfl) H.drew ⟨⟨rfl, ?p0⟩, ⟨rfl, ?p1⟩, ⟨rfl, ?p2⟩, ⟨rfl, ?p3⟩, ⟨rfl, ?p4⟩, ⟨rfl, ?p5⟩, ⟨rfl, ?p6⟩, ⟨rfl, ?p7⟩, ⟨rfl, ?p8⟩, ⟨rfl, ?p9⟩, ⟨rfl, ?p10⟩, ⟨rfl, ?p11⟩, ⟨rfl, ?p12⟩, ⟨rfl, ?p13⟩, ⟨rfl, ?p14⟩, ⟨rfl, ?p15⟩, ⟨rfl, ?p16⟩, ⟨rfl, ?p17⟩, ⟨rfl, ?p18⟩, ⟨rfl, ?p19⟩, ⟨rfl, ?p20⟩, ⟨rfl, ?p21⟩, ⟨rfl, ?p22⟩, ⟨rfl, ?p23⟩, ⟨rfl, ?p24⟩, ⟨rfl, ?p25⟩, ⟨rfl, ?p26⟩, trivial⟩ ?_
  case p0 =>
    intro D bq a' w' hk hc he hl hW
    (try dsimp only at hW)
    have f0 : a'.tmps.getD 0 undef = .pointer (some ⟨R, 0, none⟩) := (hl 0).trans ((vsx_no rfl).trans rfl)
    exact wp_val (.pointer (some ⟨R, 0, none⟩)) (by simp only [execOp, Act.eval, List.map_toArray, List.map_cons, List.map_nil]; rw [f0]; kernel_rfl) ⟨0, rfl, hW⟩
  case p1 =>
    intro D bq a' w' hk hc he hl hW
    (try dsimp only at hW)
    have f0 : a'.tmps.getD 0 undef = .pointer (some ⟨R, 0, none⟩) := (hl 0).trans ((vsx_no rfl).trans rfl)
    exact wp_val (.pointer (some ⟨R, 0, none⟩)) (by simp only [execOp, Act.eval, List.map_toArray, List.map_cons, List.map_nil]; rw [f0]; kernel_rfl) ⟨0, rfl, hW⟩
  case p2 =>
    intro D bq a' w' hk hc he hl hW
    (try dsimp only at hW)
    have f0 : a'.tmps.getD 0 undef = .pointer (some ⟨R, 0, none⟩) := (hl 0).trans ((vsx_no rfl).trans rfl)
    exact wp_val (.pointer (some ⟨R, 0, none⟩)) (by simp only [execOp, Act.eval, List.map_toArray, List.map_cons, List.map_nil]; rw [f0]; kernel_rfl) ⟨0, rfl, hW⟩
  case p3 =>
    intro D bq a' w' hk hc he hl hW
    (try dsimp only at hW)
    have e2 : a'.tmps.getD 6 undef = .pointer (some ⟨R, 0, none⟩) := (hl 6).trans (vsx_at (f := fun _ => .pointer (some ⟨R, 0, none⟩)) rfl (he ⟨2, .data⟩ (by simp) rfl) rfl)
    exact wp_val (.pointer (some ⟨R, 0, none⟩)) (by simp only [execOp, Act.eval, List.map_toArray, List.map_cons, List.map_nil]; rw [e2]; kernel_rfl) ⟨0, rfl, hW⟩
  case p4 =>
    intro D bq a' w' hk hc he hl hW
    (try dsimp only at hW)
    have e3 : a'.tmps.getD 7 undef = .pointer (some ⟨R, 0, none⟩) := (hl 7).trans (vsx_at (f := fun _ => .pointer (some ⟨R, 0, none⟩)) rfl (he ⟨3, .data⟩ (by simp) rfl) rfl)
    exact wp_val (.pointer (some ⟨R, 0, none⟩)) (by simp only [execOp, Act.eval, List.map_toArray, List.map_cons, List.map_nil]; rw [e3]; kernel_rfl) ⟨0, rfl, hW⟩
  case p5 =>
    intro D bq a' w' hk hc he hl hW
    (try dsimp only at hW)
    have e4 : a'.tmps.getD 8 undef = .pointer (some ⟨R, 0, none⟩) := (hl 8).trans (vsx_at (f := fun _ => .pointer (some ⟨R, 0, none⟩)) rfl (he ⟨4, .data⟩ (by simp) rfl) rfl)
    exact wp_val (.pointer (some ⟨R, 8, none⟩)) (by simp only [execOp, Act.eval, List.map_toArray, List.map_cons, List.map_nil]; rw [e4]; kernel_rfl) ⟨0, rfl, hW⟩
  case p6 =>
    intro D bq a' w' hk hc he hl hW
    (try dsimp only at hW)
    have e5 : a'.tmps.getD 9 undef = .pointer (some ⟨R, 8, none⟩) := (hl 9).trans (vsx_at (f := fun _ => .pointer (some ⟨R, 8, none⟩)) rfl (he ⟨5, .data⟩ (by simp) rfl) rfl)
    have n19 : D 19 = false := hc.no .data hk rfl (by simp) rfl
    have n22 : D 22 = false := hc.no .chain n19 rfl (by simp) rfl
    have n26 : D 26 = false := hc.no .phase hk rfl (by simp) rfl
    have hM := hW
    simp only [hk, n22, n26, cond_false, cond_true] at hM
    exact wp_sload _ _ rfl _ _ e5 1 hM (wkC (s)) (#[.int .u8 ((s).p), .int .u8 ((s).ps)]) rfl (by kernel_rfl) (by kernel_rfl) (part2 rfl rfl) ⟨0, rfl, hW⟩
  case p7 =>
    intro D bq a' w' hk hc he hl hW
    (try dsimp only at hW)
    have f0 : a'.tmps.getD 0 undef = .pointer (some ⟨R, 0, none⟩) := (hl 0).trans ((vsx_no rfl).trans rfl)
    exact wp_val (.pointer (some ⟨R, 0, none⟩)) (by simp only [execOp, Act.eval, List.map_toArray, List.map_cons, List.map_nil]; rw [f0]; kernel_rfl) ⟨0, rfl, hW⟩
  case p8 =>
    intro D bq a' w' hk hc he hl hW
    (try dsimp only at hW)
    have e7 : a'.tmps.getD 11 undef = .pointer (some ⟨R, 0, none⟩) := (hl 11).trans (vsx_at (f := fun _ => .pointer (some ⟨R, 0, none⟩)) rfl (he ⟨7, .data⟩ (by simp) rfl) rfl)
    exact wp_val (.pointer (some ⟨R, 0, none⟩)) (by simp only [execOp, Act.eval, List.map_toArray, List.map_cons, List.map_nil]; rw [e7]; kernel_rfl) ⟨0, rfl, hW⟩
  case p9 =>
    intro D bq a' w' hk hc he hl hW
    (try dsimp only at hW)
    have e8 : a'.tmps.getD 12 undef = .pointer (some ⟨R, 0, none⟩) := (hl 12).trans (vsx_at (f := fun _ => .pointer (some ⟨R, 0, none⟩)) rfl (he ⟨8, .data⟩ (by simp) rfl) rfl)
    exact wp_val (.pointer (some ⟨R, 0, none⟩)) (by simp only [execOp, Act.eval, List.map_toArray, List.map_cons, List.map_nil]; rw [e8]; kernel_rfl) ⟨0, rfl, hW⟩
  case p10 =>
    intro D bq a' w' hk hc he hl hW
    (try dsimp only at hW)
    have e9 : a'.tmps.getD 13 undef = .pointer (some ⟨R, 0, none⟩) := (hl 13).trans (vsx_at (f := fun _ => .pointer (some ⟨R, 0, none⟩)) rfl (he ⟨9, .data⟩ (by simp) rfl) rfl)
    exact wp_val (.pointer (some ⟨R, 0, none⟩)) (by simp only [execOp, Act.eval, List.map_toArray, List.map_cons, List.map_nil]; rw [e9]; kernel_rfl) ⟨0, rfl, hW⟩
  case p11 =>
    intro D bq a' w' hk hc he hl hW
    (try dsimp only at hW)
    have e10 : a'.tmps.getD 14 undef = .pointer (some ⟨R, 0, none⟩) := (hl 14).trans (vsx_at (f := fun _ => .pointer (some ⟨R, 0, none⟩)) rfl (he ⟨10, .data⟩ (by simp) rfl) rfl)
    have n17 : D 17 = false := hc.no .data hk rfl (by simp) rfl
    have n19 : D 19 = false := hc.no .data n17 rfl (by simp) rfl
    have n22 : D 22 = false := hc.no .chain n19 rfl (by simp) rfl
    have n26 : D 26 = false := hc.no .phase hk rfl (by simp) rfl
    have hM := hW
    simp only [hk, n22, n26, cond_false, cond_true] at hM
    exact wp_sload _ _ rfl _ _ e10 1 hM (wkC (s)) (#[.int .u8 ((s).av), .bool ((s).ab)]) rfl (by kernel_rfl) (by kernel_rfl) (part2 rfl rfl) ⟨0, rfl, hW⟩
  case p12 =>
    intro D bq a' w' hk hc he hl hW
    (try dsimp only at hW)
    have f0 : a'.tmps.getD 0 undef = .pointer (some ⟨R, 0, none⟩) := (hl 0).trans ((vsx_no rfl).trans rfl)
    exact wp_val (.pointer (some ⟨R, 0, none⟩)) (by simp only [execOp, Act.eval, List.map_toArray, List.map_cons, List.map_nil]; rw [f0]; kernel_rfl) ⟨0, rfl, hW⟩
  case p13 =>
    intro D bq a' w' hk hc he hl hW
    (try dsimp only at hW)
    have e12 : a'.tmps.getD 16 undef = .pointer (some ⟨R, 0, none⟩) := (hl 16).trans (vsx_at (f := fun _ => .pointer (some ⟨R, 0, none⟩)) rfl (he ⟨12, .data⟩ (by simp) rfl) rfl)
    exact wp_val (.pointer (some ⟨R, 0, none⟩)) (by simp only [execOp, Act.eval, List.map_toArray, List.map_cons, List.map_nil]; rw [e12]; kernel_rfl) ⟨0, rfl, hW⟩
  case p14 =>
    intro D bq a' w' hk hc he hl hW
    (try dsimp only at hW)
    have e13 : a'.tmps.getD 17 undef = .pointer (some ⟨R, 0, none⟩) := (hl 17).trans (vsx_at (f := fun _ => .pointer (some ⟨R, 0, none⟩)) rfl (he ⟨13, .data⟩ (by simp) rfl) rfl)
    exact wp_val (.pointer (some ⟨R, 0, none⟩)) (by simp only [execOp, Act.eval, List.map_toArray, List.map_cons, List.map_nil]; rw [e13]; kernel_rfl) ⟨0, rfl, hW⟩
  case p15 =>
    intro D bq a' w' hk hc he hl hW
    (try dsimp only at hW)
    have e14 : a'.tmps.getD 18 undef = .pointer (some ⟨R, 0, none⟩) := (hl 18).trans (vsx_at (f := fun _ => .pointer (some ⟨R, 0, none⟩)) rfl (he ⟨14, .data⟩ (by simp) rfl) rfl)
    exact wp_val (.pointer (some ⟨R, 2, none⟩)) (by simp only [execOp, Act.eval, List.map_toArray, List.map_cons, List.map_nil]; rw [e14]; kernel_rfl) ⟨0, rfl, hW⟩
  case p16 =>
    intro D bq a' w' hk hc he hl hW
    (try dsimp only at hW)
    have e15 : a'.tmps.getD 19 undef = .pointer (some ⟨R, 2, none⟩) := (hl 19).trans (vsx_at (f := fun _ => .pointer (some ⟨R, 2, none⟩)) rfl (he ⟨15, .data⟩ (by simp) rfl) rfl)
    have n17 : D 17 = false := hc.no .data hk rfl (by simp) rfl
    have n19 : D 19 = false := hc.no .data n17 rfl (by simp) rfl
    have n22 : D 22 = false := hc.no .chain n19 rfl (by simp) rfl
    have n26 : D 26 = false := hc.no .phase hk rfl (by simp) rfl
    have hM := hW
    simp only [hk, n22, n26, cond_false, cond_true] at hM
    exact wp_sload _ _ rfl _ _ e15 1 hM (wkC (s)) (#[.int .u8 ((s).xv), .bool ((s).xb)]) rfl (by kernel_rfl) (by kernel_rfl) (part2 rfl rfl) ⟨0, rfl, hW⟩
  case p17 =>
    intro D bq a' w' hk hc he hl hW
    (try dsimp only at hW)
    have e11 : a'.tmps.getD 15 undef = .agg #[.int .u8 ((s).av), .bool ((s).ab)] := (hl 15).trans (vsx_at (f := fun _ => .agg #[.int .u8 ((s).av), .bool ((s).ab)]) rfl (he ⟨11, .data⟩ (by simp) rfl) rfl)
    have e16 : a'.tmps.getD 20 undef = .agg #[.int .u8 ((s).xv), .bool ((s).xb)] := (hl 20).trans (vsx_at (f := fun _ => .agg #[.int .u8 ((s).xv), .bool ((s).xb)]) rfl (he ⟨16, .data⟩ (by simp) rfl) rfl)
    refine wp_callp (vals := #[.agg #[.int .u8 ((s).av), .bool ((s).ab)], .agg #[.int .u8 ((s).xv), .bool ((s).xb)]]) rfl rfl (by simp only [List.map_toArray, List.map_cons, List.map_nil, Act.eval, e11, e16]) (by kernel_rfl) (and_ct ((s).av) ((s).xv) ((s).ab) ((s).xb) w') ?_
    rintro e w2 ⟨rfl, hB⟩
    exact ⟨_, rfl, 0, rfl, Mem.next hW hB⟩
  case p18 =>
    intro D bq a' w' hk hc he hl hW
    (try dsimp only at hW)
    have f3 : a'.tmps.getD 3 undef = .pointer (some ⟨R1, 0, none⟩) := (hl 3).trans ((vsx_no rfl).trans rfl)
    have hM := hW
    exact wp_sload _ _ rfl _ _ f3 0 hM (#[.int .u8 (v), .bool (b)]) (#[.int .u8 (v), .bool (b)]) rfl (by kernel_rfl) (by kernel_rfl) (part2 rfl rfl) ⟨0, rfl, hW⟩
  case p19 =>
    intro D bq a' w' hk hc he hl hW
    (try dsimp only at hW)
    have e6 : a'.tmps.getD 10 undef = .agg #[.int .u8 ((s).p), .int .u8 ((s).ps)] := (hl 10).trans (vsx_at (f := fun _ => .agg #[.int .u8 ((s).p), .int .u8 ((s).ps)]) rfl (he ⟨6, .data⟩ (by simp) rfl) rfl)
    have e17 : a'.tmps.getD 21 undef = .agg #[.int .u8 (bits .and .u8 ((s).av) ((s).xv)), .bool (((s).ab) || ((s).xb))] := (hl 21).trans (vsx_at (f := fun _ => .agg #[.int .u8 (bits .and .u8 ((s).av) ((s).xv)), .bool (((s).ab) || ((s).xb))]) rfl (he ⟨17, .data⟩ (by simp) rfl) rfl)
    have e18 : a'.tmps.getD 22 undef = .agg #[.int .u8 (v), .bool (b)] := (hl 22).trans (vsx_at (f := fun _ => .agg #[.int .u8 (v), .bool (b)]) rfl (he ⟨18, .data⟩ (by simp) rfl) rfl)
    refine wp_callp (vals := #[.agg #[.int .u8 ((s).p), .int .u8 ((s).ps)], .agg #[.int .u8 (bits .and .u8 ((s).av) ((s).xv)), .bool (((s).ab) || ((s).xb))], .agg #[.int .u8 (v), .bool (b)]]) rfl rfl (by simp only [List.map_toArray, List.map_cons, List.map_nil, Act.eval, e6, e17, e18]) (by kernel_rfl) (asbx_ct ((s).p) ((s).ps) (bits .and .u8 ((s).av) ((s).xv)) (((s).ab) || ((s).xb)) (v) (b) w' (by first | assumption | decide | omega) (by first | assumption | decide | omega) (by first | assumption | decide | omega) (by first | assumption | decide | omega) (by first | assumption | decide | omega) (by first | assumption | decide | omega) (by first | assumption | decide | omega) (by first | assumption | decide | omega)) ?_
    rintro e w2 ⟨rfl, hB⟩
    exact ⟨_, rfl, 0, rfl, Mem.next hW hB⟩
  case p20 =>
    intro D bq a' w' hk hc he hl hW
    (try dsimp only at hW)
    have e19 : a'.tmps.getD 23 undef = .tuple #[.agg #[.int .u8 (lessV (bits .and .u8 ((s).av) ((s).xv)) (v)), .bool ((((s).ab) || ((s).xb)) || (b))], .agg #[.int .u8 (lessP ((s).p) (bits .and .u8 ((s).av) ((s).xv)) (v)), .int .u8 (lessS ((s).ps) ((((s).ab) || ((s).xb)) || (b)))]] := (hl 23).trans (vsx_at (f := fun _ => .tuple #[.agg #[.int .u8 (lessV (bits .and .u8 ((s).av) ((s).xv)) (v)), .bool ((((s).ab) || ((s).xb)) || (b))], .agg #[.int .u8 (lessP ((s).p) (bits .and .u8 ((s).av) ((s).xv)) (v)), .int .u8 (lessS ((s).ps) ((((s).ab) || ((s).xb)) || (b)))]]) rfl (he ⟨19, .data⟩ (by simp) rfl) rfl)
    exact wp_val (.agg #[.int .u8 (lessV (bits .and .u8 ((s).av) ((s).xv)) (v)), .bool ((((s).ab) || ((s).xb)) || (b))]) (by simp only [execOp, Act.eval, List.map_toArray, List.map_cons, List.map_nil]; rw [e19]; kernel_rfl) ⟨0, rfl, hW⟩
  case p21 =>
    intro D bq a' w' hk hc he hl hW
    (try dsimp only at hW)
    have e19 : a'.tmps.getD 23 undef = .tuple #[.agg #[.int .u8 (lessV (bits .and .u8 ((s).av) ((s).xv)) (v)), .bool ((((s).ab) || ((s).xb)) || (b))], .agg #[.int .u8 (lessP ((s).p) (bits .and .u8 ((s).av) ((s).xv)) (v)), .int .u8 (lessS ((s).ps) ((((s).ab) || ((s).xb)) || (b)))]] := (hl 23).trans (vsx_at (f := fun _ => .tuple #[.agg #[.int .u8 (lessV (bits .and .u8 ((s).av) ((s).xv)) (v)), .bool ((((s).ab) || ((s).xb)) || (b))], .agg #[.int .u8 (lessP ((s).p) (bits .and .u8 ((s).av) ((s).xv)) (v)), .int .u8 (lessS ((s).ps) ((((s).ab) || ((s).xb)) || (b)))]]) rfl (he ⟨19, .data⟩ (by simp) rfl) rfl)
    exact wp_val (.agg #[.int .u8 (lessP ((s).p) (bits .and .u8 ((s).av) ((s).xv)) (v)), .int .u8 (lessS ((s).ps) ((((s).ab) || ((s).xb)) || (b)))]) (by simp only [execOp, Act.eval, List.map_toArray, List.map_cons, List.map_nil]; rw [e19]; kernel_rfl) ⟨0, rfl, hW⟩
  case p22 =>
    intro D bq a' w' hk hc he hl hW
    (try dsimp only at hW)
    have e1 : a'.tmps.getD 5 undef = .pointer (some ⟨R, 0, none⟩) := (hl 5).trans (vsx_at (f := fun _ => .pointer (some ⟨R, 0, none⟩)) rfl (he ⟨1, .data⟩ (by simp) rfl) rfl)
    have e20 : a'.tmps.getD 24 undef = .agg #[.int .u8 (lessV (bits .and .u8 ((s).av) ((s).xv)) (v)), .bool ((((s).ab) || ((s).xb)) || (b))] := (hl 24).trans (vsx_at (f := fun _ => .agg #[.int .u8 (lessV (bits .and .u8 ((s).av) ((s).xv)) (v)), .bool ((((s).ab) || ((s).xb)) || (b))]) rfl (he ⟨20, .data⟩ (by simp) rfl) rfl)
    have e21 : a'.tmps.getD 25 undef = .agg #[.int .u8 (lessP ((s).p) (bits .and .u8 ((s).av) ((s).xv)) (v)), .int .u8 (lessS ((s).ps) ((((s).ab) || ((s).xb)) || (b)))] := (hl 25).trans (vsx_at (f := fun _ => .agg #[.int .u8 (lessP ((s).p) (bits .and .u8 ((s).av) ((s).xv)) (v)), .int .u8 (lessS ((s).ps) ((((s).ab) || ((s).xb)) || (b)))]) rfl (he ⟨21, .data⟩ (by simp) rfl) rfl)
    have n26 : D 26 = false := hc.no .data hk rfl (by simp) rfl
    have hM := hW
    simp only [hk, n26, cond_false, cond_true] at hM
    obtain ⟨T9, hT⟩ := Mem.get hM (i := 1) rfl
    refine wp_callp (vals := #[.pointer (some ⟨R, 0, none⟩), .agg #[.int .u8 (lessV (bits .and .u8 ((s).av) ((s).xv)) (v)), .bool ((((s).ab) || ((s).xb)) || (b))], .agg #[.int .u8 (lessP ((s).p) (bits .and .u8 ((s).av) ((s).xv)) (v)), .int .u8 (lessS ((s).ps) ((((s).ab) || ((s).xb)) || (b)))]]) rfl rfl (by simp only [List.map_toArray, List.map_cons, List.map_nil, Act.eval, e1, e20, e21]) (by kernel_rfl) (with_ct s (lessV (bits .and .u8 ((s).av) ((s).xv)) (v)) ((((s).ab) || ((s).xb)) || (b)) (lessP ((s).p) (bits .and .u8 ((s).av) ((s).xv)) (v)) (lessS ((s).ps) ((((s).ab) || ((s).xb)) || (b))) _ T9 w' hT) ?_
    rintro e w2 ⟨rfl, hm⟩
    refine ⟨_, rfl, 0, rfl, ?_⟩
    (try dsimp only)
    have z26 : doneB D 22 26 = false := n26
    simp only [z26, cond_false]
    exact (Mem.call hM (i := 1) rfl hm)
  case p23 =>
    intro D bq a' w' hk hc he hl hW
    (try dsimp only at hW)
    have e0 : a'.tmps.getD 4 undef = .pointer (some ⟨R, 0, none⟩) := (hl 4).trans (vsx_at (f := fun _ => .pointer (some ⟨R, 0, none⟩)) rfl (he ⟨0, .data⟩ (by simp) rfl) rfl)
    exact wp_val (.pointer (some ⟨R, 0, none⟩)) (by simp only [execOp, Act.eval, List.map_toArray, List.map_cons, List.map_nil]; rw [e0]; kernel_rfl) ⟨0, rfl, hW⟩
  case p24 =>
    intro D bq a' w' hk hc he hl hW
    (try dsimp only at hW)
    have e23 : a'.tmps.getD 27 undef = .pointer (some ⟨R, 0, none⟩) := (hl 27).trans (vsx_at (f := fun _ => .pointer (some ⟨R, 0, none⟩)) rfl (he ⟨23, .data⟩ (by simp) rfl) rfl)
    exact wp_val (.pointer (some ⟨R, 0, none⟩)) (by simp only [execOp, Act.eval, List.map_toArray, List.map_cons, List.map_nil]; rw [e23]; kernel_rfl) ⟨0, rfl, hW⟩
  case p25 =>
    intro D bq a' w' hk hc he hl hW
    (try dsimp only at hW)
    have e24 : a'.tmps.getD 28 undef = .pointer (some ⟨R, 0, none⟩) := (hl 28).trans (vsx_at (f := fun _ => .pointer (some ⟨R, 0, none⟩)) rfl (he ⟨24, .data⟩ (by simp) rfl) rfl)
    exact wp_val (.pointer (some ⟨R, 2, none⟩)) (by simp only [execOp, Act.eval, List.map_toArray, List.map_cons, List.map_nil]; rw [e24]; kernel_rfl) ⟨0, rfl, hW⟩
  case p26 =>
    intro D bq a' w' hk hc he hl hW
    (try dsimp only at hW)
    have e25 : a'.tmps.getD 29 undef = .pointer (some ⟨R, 2, none⟩) := (hl 29).trans (vsx_at (f := fun _ => .pointer (some ⟨R, 2, none⟩)) rfl (he ⟨25, .data⟩ (by simp) rfl) rfl)
    have e22 : a'.tmps.getD 26 undef = .agg #[.int .u8 (lessV (bits .and .u8 ((s).av) ((s).xv)) (v)), .bool ((((s).ab) || ((s).xb)) || (b))] := (hl 26).trans (vsx_at (f := fun _ => .agg #[.int .u8 (lessV (bits .and .u8 ((s).av) ((s).xv)) (v)), .bool ((((s).ab) || ((s).xb)) || (b))]) rfl (he ⟨22, .data⟩ (by simp) rfl) rfl)
    have y22 : D 22 = true := he ⟨22, .data⟩ (by simp) rfl
    have hM := hW
    simp only [hk, y22, cond_false, cond_true] at hM
    refine wp_sstore1 _ _ _ rfl rfl R 2 e25 1 hM (wkC (({ s with p := lessP ((s).p) (bits .and .u8 ((s).av) ((s).xv)) (v), ps := lessS ((s).ps) ((((s).ab) || ((s).xb)) || (b)) } : Wk))) (wkC ((({ s with p := lessP ((s).p) (bits .and .u8 ((s).av) ((s).xv)) (v), ps := lessS ((s).ps) ((((s).ab) || ((s).xb)) || (b)) } : Wk)).uX (lessV (bits .and .u8 ((s).av) ((s).xv)) (v)) ((((s).ab) || ((s).xb)) || (b)))) rfl (.agg #[.int .u8 (lessV (bits .and .u8 ((s).av) ((s).xv)) (v)), .bool ((((s).ab) || ((s).xb)) || (b))]) e22 (by kernel_rfl) (of_decide_eq_true (by kernel_rfl)) (by kernel_rfl) (st_X _ _ _) fun w1 hM1 => ⟨0, rfl, ?_⟩
    exact hM1
  intro D bq w' hD hW
  (try dsimp only at hW)
  simp only [hD 22 (by decide), hD 26 (by decide), cond_true] at hW
  clear H hD
  have H := hW
  clear hW
  simp only [putAll, vsOf, Nat.reduceAdd, List.foldl_cons, List.foldl_nil, Act.put, List.setIfInBounds_toArray, List.set_cons_succ, List.set_cons_zero]
  (try simp only [IntKind.wrap_u16, IntKind.wrap_u8] at H)
  all_goals (first | refine fall rfl rfl ?_ | refine fallr rfl rfl ?_)
  all_goals (refine ⟨rfl, ?_⟩; first | exact H.only (i := 1) rfl)

end Go.Proofs.YtbonamhinnhlnaaGreatDoor
