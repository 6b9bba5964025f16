/-
  Several texts in one: what is read and written by the functions on the way to the statements. Conditions stand in each theorem.
-/
import Derived.Test.YtopmlmpadkdhjaaGreatDoorZ39
namespace Go.Proofs.YtopmlmpadkdhjaaGreatDoor
open Go.RowKit
set_option linter.unusedSimpArgs false
set_option linter.unusedVariables false
set_option maxRecDepth 20000

attribute [local irreducible] wpList
set_option maxHeartbeats 16000000 in
theorem kint_f (c : Cp) (v : Int) (W : World) (G : GlobO W) (O : Oct c) (v0 : 0 ≤ v) (v1 : v < 256) (hi : (if false then 2 else if hasV (clr c.p) 4 then 0 else 1 : Int) = 1) (hb : (bits .and .u8 (clr c.p) 4 == 0) = true) : Calls Tryz.prog 6 #[.agg (cpC c), .bool false, .int .u8 v] W fun e w' => e = .returned (.bool true) ∧ Below W.heap.size W w' := by
  have IK := Lib.hid (iM_ok O v false v0 v1)
  have FC := clear_fit O
  have F0 : Fit { c with p := clr c.p, ps := clr c.ps } := ⟨O.a0, O.a1, O.x0, O.x1, O.y0, O.y1, O.s0, O.s1, (clr_le _ O.p0 O.p1).1, (clr_le _ O.p0 O.p1).2, (clr_le _ O.q0 O.q1).1, (clr_le _ O.q0 O.q1).2, clr_clr _, clr_clr _, O.pc0, O.pc1, O.op0, O.op1, O.ad0, O.ad1, O.d0, O.d1⟩
  have e0 : clear0 { c with p := clr c.p, ps := clr c.ps } = clear0 c := by
    unfold clear0
    rw [clr_clr]
  have IFa := int_facts { c with p := clr c.p, ps := clr c.ps } v false (F0.oct) 1 (by show (if false then 2 else if hasV (clr (clr c.p)) 4 then 0 else 1 : Int) = _; rw [clr_clr]; exact hi) (by decide) (by decide) F0
  have IFb0 := int_first { c with p := clr c.p, ps := clr c.ps } v false F0
  have ei : ∀ k, iM { c with p := clr c.p, ps := clr c.ps } v false k = iM c v false k := fun k => by
    induction k with
    | zero => unfold iM; rw [e0]
    | succ k ih => unfold iM; rw [ih]
  rw [ei] at IFb0
  have IFb : (iM c v false 0).t = 0 ∧ (iM c v false 0).intr = 1 ∧ (iM c v false 0).pc = (c.pc + 1) % 65536 ∧ (iM c v false 0).p = clr c.p := ⟨IFb0.1, IFb0.2.1.trans (by show (if false then 2 else if hasV (clr (clr c.p)) 4 then 0 else 1 : Int) = _; rw [clr_clr]; exact hi), IFb0.2.2.1, IFb0.2.2.2.trans (clr_clr _)⟩
  clear IFb0
  obtain ⟨a0, a1, a2, a3, a4, a5, a6, ee⟩ := IFa
  simp only [ei, clr_clr] at a0 a1 a2 a3 a4 a5 a6 ee
  have okY := take_ok (clear0 c) 234 false true false false FC (clear_ok c) (by decide) (by decide)
  have QT0 := Lib.hid (fun wr (g : GlobO wr) => (show Calls Tryz.prog 11 #[.agg (cpC (clear0 c)), .agg #[.int .u8 234, .bool false], .agg #[.bool true, .bool false, .bool false]] wr fun e w' => e = .returned (.tuple #[.agg (cpC (takeM (clear0 c) 234 false true false false)), .int .i64 0]) ∧ Below wr.heap.size wr w' from take_ct (clear0 c) 234 false true false false (show okB (clear0 c) = true ∧ Fit (clear0 c) from ⟨clear_ok c, FC⟩).2 (show okB (clear0 c) = true ∧ Fit (clear0 c) from ⟨clear_ok c, FC⟩).1 (by decide) (by decide) wr g))
  have QT1 := Lib.hid (fun wr (g : GlobO wr) => (show Calls Tryz.prog 11 #[.agg (cpC (takeM (clear0 c) 234 false true false false)), .agg #[.int .u8 v, .bool false], .agg #[.bool true, .bool false, .bool false]] wr fun e w' => e = .returned (.tuple #[.agg (cpC (iM c v false 0)), .int .i64 0]) ∧ Below wr.heap.size wr w' from take_ct (takeM (clear0 c) 234 false true false false) v false true false false (show okB _ = true ∧ Fit _ from ⟨okY.1, okY.2.1⟩).2 (show okB _ = true ∧ Fit _ from ⟨okY.1, okY.2.1⟩).1 v0 v1 wr g))
  have QZ0 := Lib.hid (fun wr (g : GlobO wr) => (show Calls Tryz.prog 11 #[.agg (cpC (iM c v false 0)), .agg #[.int .u8 v, .bool false], .agg #[.bool true, .bool false, .bool false]] wr fun e w' => e = .returned (.tuple #[.agg (cpC (iM c v false 1)), .int .i64 0]) ∧ Below wr.heap.size wr w' from take_ct (iM c v false 0) v false true false false (IK.out 0).2 (IK.out 0).1 v0 v1 wr g))
  have QZ1 := Lib.hid (fun wr (g : GlobO wr) => (show Calls Tryz.prog 11 #[.agg (cpC (iM c v false 1)), .agg #[.int .u8 v, .bool false], .agg #[.bool true, .bool false, .bool false]] wr fun e w' => e = .returned (.tuple #[.agg (cpC (iM c v false 2)), .int .i64 0]) ∧ Below wr.heap.size wr w' from take_ct (iM c v false 1) v false true false false (IK.out 1).2 (IK.out 1).1 v0 v1 wr g))
  have QZ2 := Lib.hid (fun wr (g : GlobO wr) => (show Calls Tryz.prog 11 #[.agg (cpC (iM c v false 2)), .agg #[.int .u8 v, .bool false], .agg #[.bool true, .bool false, .bool false]] wr fun e w' => e = .returned (.tuple #[.agg (cpC (iM c v false 3)), .int .i64 0]) ∧ Below wr.heap.size wr w' from take_ct (iM c v false 2) v false true false false (IK.out 2).2 (IK.out 2).1 v0 v1 wr g))
  have QZ3 := Lib.hid (fun wr (g : GlobO wr) => (show Calls Tryz.prog 11 #[.agg (cpC (iM c v false 3)), .agg #[.int .u8 v, .bool false], .agg #[.bool true, .bool false, .bool false]] wr fun e w' => e = .returned (.tuple #[.agg (cpC (iM c v false 4)), .int .i64 0]) ∧ Below wr.heap.size wr w' from take_ct (iM c v false 3) v false true false false (IK.out 3).2 (IK.out 3).1 v0 v1 wr g))
  have QZ4 := Lib.hid (fun wr (g : GlobO wr) => (show Calls Tryz.prog 11 #[.agg (cpC (iM c v false 4)), .agg #[.int .u8 v, .bool false], .agg #[.bool true, .bool false, .bool false]] wr fun e w' => e = .returned (.tuple #[.agg (cpC (iM c v false 5)), .int .i64 0]) ∧ Below wr.heap.size wr w' from take_ct (iM c v false 4) v false true false false (IK.out 4).2 (IK.out 4).1 v0 v1 wr g))
  have QZ5 := Lib.hid (fun wr (g : GlobO wr) => (show Calls Tryz.prog 11 #[.agg (cpC (iM c v false 5)), .agg #[.int .u8 v, .bool false], .agg #[.bool true, .bool false, .bool false]] wr fun e w' => e = .returned (.tuple #[.agg (cpC (iM c v false 6)), .int .i64 0]) ∧ Below wr.heap.size wr w' from take_ct (iM c v false 5) v false true false false (IK.out 5).2 (IK.out 5).1 v0 v1 wr g))
  have QZ6 := Lib.hid (fun wr (g : GlobO wr) => (show Calls Tryz.prog 11 #[.agg (cpC (iM c v false 6)), .agg #[.int .u8 v, .bool false], .agg #[.bool true, .bool false, .bool false]] wr fun e w' => e = .returned (.tuple #[.agg (cpC (iM c v false 7)), .int .i64 0]) ∧ Below wr.heap.size wr w' from take_ct (iM c v false 6) v false true false false (IK.out 6).2 (IK.out 6).1 v0 v1 wr g))
  have QR := Lib.hid (fun wr (g : GlobO wr) => (show Calls Tryz.prog 11 #[.agg (cpC (takeM (clear0 c) 234 false true false false)), .agg #[.int .u8 v, .bool false], .agg #[.bool false, .bool false, .bool true]] wr fun e w' => e = .returned (.tuple #[.agg (cpC (takeM (takeM (clear0 c) 234 false true false false) v false false false true)), .int .i64 0]) ∧ Below wr.heap.size wr w' from take_ct (takeM (clear0 c) 234 false true false false) v false false false true (show okB _ = true ∧ Fit _ from ⟨okY.1, okY.2.1⟩).2 (show okB _ = true ∧ Fit _ from ⟨okY.1, okY.2.1⟩).1 v0 v1 wr g))
  have QA0 := Lib.hid (fun wr (g : GlobO wr) => (show Calls Tryz.prog 14 #[.agg (cpC (iM c v false 0))] wr fun e w' => e = .returned (.agg (bsC ⟨(askedM (iM c v false 0)).ad, false, (askedM (iM c v false 0)).v, (askedM (iM c v false 0)).vb, (askedM (iM c v false 0)).sc⟩)) ∧ Below wr.heap.size wr w' from by
    have := kask_ct (iM c v false 0) (IK.out 0).2 (IK.out 0).1 wr g
    rw [no_write' a0] at this
    exact this))
  have QA1 := Lib.hid (fun wr (g : GlobO wr) => (show Calls Tryz.prog 14 #[.agg (cpC (iM c v false 1))] wr fun e w' => e = .returned (.agg (bsC ⟨(askedM (iM c v false 1)).ad, false, (askedM (iM c v false 1)).v, (askedM (iM c v false 1)).vb, (askedM (iM c v false 1)).sc⟩)) ∧ Below wr.heap.size wr w' from by
    have := kask_ct (iM c v false 1) (IK.out 1).2 (IK.out 1).1 wr g
    rw [no_write' a1] at this
    exact this))
  have QA2 := Lib.hid (fun wr (g : GlobO wr) => (show Calls Tryz.prog 14 #[.agg (cpC (iM c v false 2))] wr fun e w' => e = .returned (.agg (bsC ⟨c.sv + 256 * 1, true, (c.pc + 1) % 65536 / 256, false, false⟩)) ∧ Below wr.heap.size wr w' from by
    have := kask_ct (iM c v false 2) (IK.out 2).2 (IK.out 2).1 wr g
    rw [a2] at this
    exact this))
  have QA3 := Lib.hid (fun wr (g : GlobO wr) => (show Calls Tryz.prog 14 #[.agg (cpC (iM c v false 3))] wr fun e w' => e = .returned (.agg (bsC ⟨(c.sv - 1) % 256 + 256 * 1, true, (c.pc + 1) % 65536 % 256, false, false⟩)) ∧ Below wr.heap.size wr w' from by
    have := kask_ct (iM c v false 3) (IK.out 3).2 (IK.out 3).1 wr g
    rw [a3] at this
    exact this))
  have QA4 := Lib.hid (fun wr (g : GlobO wr) => (show Calls Tryz.prog 14 #[.agg (cpC (iM c v false 4))] wr fun e w' => e = .returned (.agg (bsC ⟨((c.sv - 1) % 256 - 1) % 256 + 256 * 1, true, bits .or .u8 (clr c.p) 32, false, false⟩)) ∧ Below wr.heap.size wr w' from by
    have := kask_ct (iM c v false 4) (IK.out 4).2 (IK.out 4).1 wr g
    rw [a4, ← or_32 c.p O.p0 O.p1] at this
    exact this))
  have a5w := no_write' a5.1
  rw [a5.2] at a5w
  have QA5 := Lib.hid (fun wr (g : GlobO wr) => (show Calls Tryz.prog 14 #[.agg (cpC (iM c v false 5))] wr fun e w' => e = .returned (.agg (bsC ⟨65534, false, (askedM (iM c v false 5)).v, (askedM (iM c v false 5)).vb, (askedM (iM c v false 5)).sc⟩)) ∧ Below wr.heap.size wr w' from by
    have := kask_ct (iM c v false 5) (IK.out 5).2 (IK.out 5).1 wr g
    rw [a5w, show vecV 1 = 65534 from rfl] at this
    exact this))
  have QA6 := Lib.hid (fun wr (g : GlobO wr) => (show Calls Tryz.prog 14 #[.agg (cpC (iM c v false 6))] wr fun e w' => e = .returned (.agg (bsC ⟨(askedM (iM c v false 6)).ad, false, (askedM (iM c v false 6)).v, (askedM (iM c v false 6)).vb, (askedM (iM c v false 6)).sc⟩)) ∧ Below wr.heap.size wr w' from by
    have := kask_ct (iM c v false 6) (IK.out 6).2 (IK.out 6).1 wr g
    rw [no_write' a6] at this
    exact this))
  generalize (askedM (iM c v false 0)).v = av0 at *
  generalize (askedM (iM c v false 0)).vb = ab0 at *
  generalize (askedM (iM c v false 0)).sc = as0 at *
  generalize (askedM (iM c v false 0)).ad = aa0 at *
  generalize (askedM (iM c v false 1)).v = av1 at *
  generalize (askedM (iM c v false 1)).vb = ab1 at *
  generalize (askedM (iM c v false 1)).sc = as1 at *
  generalize (askedM (iM c v false 1)).ad = aa1 at *
  generalize (askedM (iM c v false 5)).v = av5 at *
  generalize (askedM (iM c v false 5)).vb = ab5 at *
  generalize (askedM (iM c v false 5)).sc = as5 at *
  generalize (askedM (iM c v false 6)).v = av6 at *
  generalize (askedM (iM c v false 6)).vb = ab6 at *
  generalize (askedM (iM c v false 6)).sc = as6 at *
  generalize (askedM (iM c v false 6)).ad = aa6 at *
  have Kt := Lib.hid (show (cpC (iM c v false 0))[13]? = some (.int .i64 0) by show some (Value.int .i64 (iM c v false 0).t) = _; rw [IFb.1])
  have Ki := Lib.hid (show (cpC (iM c v false 0))[19]? = some (.int .i64 1) by show some (Value.int .i64 (iM c v false 0).intr) = _; rw [IFb.2.1])
  have Kp := Lib.hid (show (cpC (iM c v false 0))[8]? = some (.int .u8 (clr c.p)) by show some (Value.int .u8 (iM c v false 0).p) = _; rw [IFb.2.2.2])
  obtain ⟨P, hP⟩ : ∃ P, P = (c.pc + 1) % 65536 := ⟨_, rfl⟩
  rw [← hP] at QA2 QA3 IFb
  have P0 : 0 ≤ P := by omega
  have P1 : P < 65536 := by omega
  have HP := Lib.hid hP
  have Kc := Lib.hid (show (cpC (iM c v false 0))[10]? = some (.int .u16 P) by show some (Value.int .u16 (iM c v false 0).pc) = _; rw [IFb.2.2.1])
  have Et := Lib.hid (show (cpC (iM c v false 7))[13]? = some (.int .i64 0) by show some (Value.int .i64 (iM c v false 7).t) = _; rw [ee.1])
  have Ei := Lib.hid (show (cpC (iM c v false 7))[19]? = some (.int .i64 0) by show some (Value.int .i64 (iM c v false 7).intr) = _; rw [ee.2.1])
  have Ec := Lib.hid (show (cpC (iM c v false 7))[10]? = some (.int .u16 (v + 256 * v)) by show some (Value.int .u16 (iM c v false 7).pc) = _; rw [ee.2.2.1])
  have Ep := Lib.hid (show (cpC (iM c v false 7))[8]? = some (.int .u8 (pbV (clr c.p) 4 true)) by show some (Value.int .u8 (iM c v false 7).p) = _; rw [ee.2.2.2.1])
  have Eg := Lib.hid (show (cpC (iM c v false 7))[21]? = some (.bool false) by show some (Value.bool (iM c v false 7).got) = _; rw [ee.2.2.2.2])
  have hput := put_four (clr c.p) (clr_le _ O.p0 O.p1).1 (clr_le _ O.p0 O.p1).2
  have s0 := O.s0
  have s1 := O.s1
  have c0 := O.pc0
  have c1 := O.pc1
  have c8 := (clr_le c.p O.p0 O.p1).1
  have c9 := (clr_le c.p O.p0 O.p1).2
  have Zt := Lib.hid (show (cpC (takeM (takeM (clear0 c) 234 false true false false) v false false false true))[13]? = some (.int .i64 0) from rfl)
  have Zi := Lib.hid (show (cpC (takeM (takeM (clear0 c) 234 false true false false) v false false false true))[19]? = some (.int .i64 3) from rfl)
  generalize takeM (takeM (clear0 c) 234 false true false false) v false false false true = zr at *
  generalize takeM (clear0 c) 234 false true false false = y at *
  generalize iM c v false 0 = z0 at *
  generalize iM c v false 1 = z1 at *
  generalize iM c v false 2 = z2 at *
  generalize iM c v false 3 = z3 at *
  generalize iM c v false 4 = z4 at *
  generalize iM c v false 5 = z5 at *
  generalize iM c v false 6 = z6 at *
  generalize iM c v false 7 = z7 at *
  have HO := Lib.hid O
  clear a0 a1 a2 a3 a4 a5 a5w a6 ee IFb IK FC F0 e0 ei okY hP
  have QW := Lib.hid (fun wr (g : GlobO wr) => kawake_ct wr g)
  have HZC := Lib.hid alloc_cpu
  have HZB := Lib.hid alloc_bus
  have HZL := Lib.hid alloc_ln
  have GG := Lib.hid G
  clear G
  have H := Mem.start W
  have M1 : True := trivial
  have M2 : True := trivial
  have M3 : True := trivial
  have M4 : True := trivial
  have M5 : True := trivial
  have M6 : True := trivial
  have M7 : True := trivial
  have M8 : True := trivial
  go_enter Tryz.func6, Tryz.ntmps6
  go_wp2_with (first | (clear M1; refine wpList_mboxA rfl _ _ rfl H _ rfl ?_; clear H; intro Rc w1 _ H) | fail)
  (refine wp_region_tails_below 18 (by kernel_rfl) (by kernel_rfl) ?_)
  (simp only [List.take_succ_cons, List.take_zero, List.drop_succ_cons, List.drop_zero])
  (repeat (first | (go_big_quiet_want; refine gate_qload _ _ rfl ?_; refine quiet_mload 23 _ rfl _ _ rfl 0 H _ #[.int .u8 _, .bool _] rfl (by decide +kernel) (by kernel_rfl) (part2 rfl rfl) ?_; simp only [Act.put, List.setIfInBounds_toArray, List.set_cons_succ, List.set_cons_zero]; go_big_quiet_on) | (go_big_quiet_want; refine gate_qload _ _ rfl ?_; refine quiet_mload 25 _ rfl _ _ rfl 0 H _ #[.int .u8 _, .int .u8 _] rfl (by decide +kernel) (by kernel_rfl) (part2 rfl rfl) ?_; simp only [Act.put, List.setIfInBounds_toArray, List.set_cons_succ, List.set_cons_zero]; go_big_quiet_on) | (go_big_quiet_want; refine gate_qload _ _ rfl ?_; refine quiet_mload1 _ _ rfl _ _ rfl 0 H _ (.int _ _) rfl rfl (by decide +kernel) ?_; simp only [Act.put, List.setIfInBounds_toArray, List.set_cons_succ, List.set_cons_zero]; go_big_quiet_on) | (go_big_quiet_want; refine quiet_mfield _ _ _ rfl (.agg #[.int .u8 _, .int .u8 _]) _ rfl (fun w => field_fl _ _ w) ?_; simp only [Act.put, List.setIfInBounds_toArray, List.set_cons_succ, List.set_cons_zero]; go_big_quiet_on) | (go_big_quiet_want; refine quiet_mbuildv _ _ rfl _ (by first | (simp only [List.map_toArray, List.map_cons, List.map_nil, Act.eval]; done) | (simp only [List.map_toArray, List.map_cons, List.map_nil, Act.eval]; rfl) | rfl) _ (build_by0 _) ?_; simp only [Act.put, List.setIfInBounds_toArray, List.set_cons_succ, List.set_cons_zero]; go_big_quiet_on) | (go_big_quiet_want; refine quiet_mbuildv _ _ rfl _ (by first | (simp only [List.map_toArray, List.map_cons, List.map_nil, Act.eval]; done) | (simp only [List.map_toArray, List.map_cons, List.map_nil, Act.eval]; rfl) | rfl) _ (build_fl0 _) ?_; simp only [Act.put, List.setIfInBounds_toArray, List.set_cons_succ, List.set_cons_zero]; go_big_quiet_on) | (go_big_quiet_want; refine quiet_mbuildv _ _ rfl _ (by first | (simp only [List.map_toArray, List.map_cons, List.map_nil, Act.eval]; done) | (simp only [List.map_toArray, List.map_cons, List.map_nil, Act.eval]; rfl) | rfl) _ (build_clear _) ?_; simp only [Act.put, List.setIfInBounds_toArray, List.set_cons_succ, List.set_cons_zero]; go_big_quiet_on) | go_big_quiet_step (first | (go_at_call 19; (with_reducible exact Calls.regrown_of (qcheck_ct _ _ _ HO.out.p0 HO.out.p1 HO.out.q0 HO.out.q1))) | fail)))
  (refine wpQuiet_nil ?_)
  intro _ hw'
  obtain ⟨⟨dq, osq⟩, hw''⟩ := hw'
  (subst hw'')
  replace H := H.next (below_regrown _ dq osq)
  go_wp2_with (first | (refine gate_store _ _ _ rfl ?_; refine wpList_mstoreA rfl 28 _ _ rfl rfl _ rfl 0 H (cpC _) _ rfl rfl (by kernel_rfl) (by kernel_rfl) (by kernel_rfl) ?_; clear H; intro w1 H; simp only [List.set_cons_zero, List.set_cons_succ] at H) | (refine wpList_mbuildv rfl _ _ rfl _ (by first | (simp only [List.map_toArray, List.map_cons, List.map_nil, Act.eval]; done) | (simp only [List.map_toArray, List.map_cons, List.map_nil, Act.eval]; rfl) | rfl) _ (build_lnA _ _) ?_) | (clear M2; refine wpList_mnew rfl _ rfl H _ HZL.out ?_; clear H; intro Rl w1 _ H) | (refine gate_store _ _ _ rfl ?_; refine wpList_mstoreA rfl 36 _ _ rfl rfl _ rfl 0 H #[.bool _, .bool _, .bool _] _ rfl rfl (by kernel_rfl) (by kernel_rfl) (by kernel_rfl) ?_; clear H; intro w1 H; simp only [List.set_cons_zero, List.set_cons_succ] at H) | (refine gate_load _ _ rfl ?_; refine wpList_mloadA rfl 28 _ rfl _ rfl 1 H (cpC _) rfl (by decide +kernel) (by kernel_rfl) ?_) | (refine wpList_mbuildv rfl _ _ rfl _ (by first | (simp only [List.map_toArray, List.map_cons, List.map_nil, Act.eval]; done) | (simp only [List.map_toArray, List.map_cons, List.map_nil, Act.eval]; rfl) | rfl) _ (build_by0 _) ?_) | (refine gate_load _ _ rfl ?_; refine wpList_mloadA rfl 36 _ rfl _ rfl 0 H #[.bool _, .bool _, .bool _] rfl (by decide +kernel) (by kernel_rfl) ?_) | (go_at_call 11; (with_reducible refine (QT0.out _ (GG.out.mem H)).mono ?_); rintro e w2 ⟨rfl, hB⟩; replace H := H.next hB; clear hB) | (clear M3; refine wpList_mnew rfl _ rfl H _ HZC.out ?_; clear H; intro Rf w1 _ H) | (refine gate_load _ _ rfl ?_; refine wpList_mloadA rfl 36 _ rfl _ rfl 1 H #[.bool _, .bool _, .bool _] rfl (by decide +kernel) (by kernel_rfl) ?_) | (go_at_call 11; (with_reducible refine (QT1.out _ (GG.out.mem H)).mono ?_); rintro e w2 ⟨rfl, hB⟩; replace H := H.next hB; clear hB) | (clear M4; refine wpList_mnew rfl _ rfl H _ HZC.out ?_; clear H; intro Rq w1 _ H) | (refine gate_load _ _ rfl ?_; refine wpList_mloadA rfl 28 _ rfl _ rfl 0 H (cpC _) rfl (by decide +kernel) (by kernel_rfl) ?_) | (refine gate_load _ _ rfl ?_; refine wpList_mload1 rfl _ _ rfl _ _ rfl 3 H _ (.int .u8 (clr c.p)) rfl rfl (by decide +kernel) ?_) | (refine gate_load _ _ rfl ?_; refine wpList_mload1 rfl _ _ rfl _ _ rfl 3 H _ (.int .u16 c.pc) rfl rfl (by decide +kernel) ?_) | (refine gate_load _ _ rfl ?_; refine wpList_mload1 rfl _ _ rfl _ _ rfl 0 H _ (.int .i64 0) rfl (by exact Kt.out) (by decide +kernel) ?_) | (refine gate_load _ _ rfl ?_; refine wpList_mload1 rfl _ _ rfl _ _ rfl 0 H _ (.int .i64 1) rfl (by exact Ki.out) (by decide +kernel) ?_) | (refine gate_load _ _ rfl ?_; refine wpList_mload1 rfl _ _ rfl _ _ rfl 0 H _ (.int .u16 _) rfl (by exact Kc.out) (by decide +kernel) ?_) | (refine gate_load _ _ rfl ?_; refine wpList_mload1 rfl _ _ rfl _ _ rfl 0 H _ (.int .u8 _) rfl (by exact Kp.out) (by decide +kernel) ?_) | (refine wpList_mbin rfl _ 26 _ _ _ rfl (.int .u16 _) (.int .u16 _) (.bool false) rfl rfl (fun w => neq_u16 (by first | rfl | (rw [HP.out, IntKind.wrap_u16]; done) | (rw [HP.out, IntKind.wrap_u16]; rfl) | omega) _ _ w) ?_) | (refine wpList_mrow rfl _ _ _ rfl H _ (by simp only [List.map_toArray, List.map_cons, List.map_nil, Act.eval]; rfl) _ _ (build_s3 _ _ _) ?_; clear H; intro R1 w1 H) | (clear M5; refine wpList_mnew rfl _ rfl H _ HZC.out ?_; clear H; intro Rt w1 _ H) | fail)
  rw [show IntKind.u16.wrap (P.tdiv 256) % 256 = P / 256 from by rw [IntKind.wrap_u16, Int.tdiv_eq_ediv_of_nonneg P0]; omega] at H
  refine wp_loop_rounds (7 + 1) ?_
  rw [rounds_succ]
  go_wp2_with (first | (refine gate_load _ _ rfl ?_; refine wpList_mloadA rfl 28 _ rfl _ rfl 0 H (cpC _) rfl (by decide +kernel) (by kernel_rfl) ?_) | (go_at_call 14; (with_reducible refine (QA0.out _ (GG.out.mem H)).mono ?_); rintro e w2 ⟨rfl, hB⟩; replace H := H.next hB; clear hB) | (refine wpList_mnew rfl _ rfl H _ HZB.out ?_; clear H; intro Rb w1 _ H) | (refine gate_store _ _ _ rfl ?_; refine wpList_mstoreA rfl 43 _ _ rfl rfl _ rfl 0 H (bsC _) _ rfl rfl (by kernel_rfl) (by kernel_rfl) (by kernel_rfl) ?_; clear H; intro w1 H; simp only [List.set_cons_zero, List.set_cons_succ] at H) | fail)
  (try simp only [Act.put, List.setIfInBounds_toArray, List.set_cons_succ, List.set_cons_zero])
  (refine wp_region_quiet_below (by kernel_rfl) (by kernel_rfl) ?_)
  (repeat (first | (go_big_quiet_want; refine gate_qload _ _ rfl ?_; refine quiet_mload1 _ _ rfl _ _ rfl 0 H _ (.bool _) rfl rfl (by decide +kernel) ?_; simp only [Act.put, List.setIfInBounds_toArray, List.set_cons_succ, List.set_cons_zero]; go_big_quiet_on) | go_big_quiet_step (fail)))
  (refine wpQuiet_nil ?_)
  intro _ hw'
  obtain ⟨⟨dq, osq⟩, hw''⟩ := hw'
  (subst hw'')
  replace H := H.next (below_regrown _ dq osq)
  go_wp2_with (first | (refine gate_load _ _ rfl ?_; refine wpList_mloadA rfl 28 _ rfl _ rfl 1 H (cpC _) rfl (by decide +kernel) (by kernel_rfl) ?_) | (refine wpList_mbuildv rfl _ _ rfl _ (by first | (simp only [List.map_toArray, List.map_cons, List.map_nil, Act.eval]; done) | (simp only [List.map_toArray, List.map_cons, List.map_nil, Act.eval]; rfl) | rfl) _ (build_by0 _) ?_) | (refine gate_load _ _ rfl ?_; refine wpList_mloadA rfl 36 _ rfl _ rfl 5 H #[.bool _, .bool _, .bool _] rfl (by decide +kernel) (by kernel_rfl) ?_) | (go_at_call 11; (with_reducible refine (QZ0.out _ (GG.out.mem H)).mono ?_); rintro e w2 ⟨rfl, hB⟩; replace H := H.next hB; clear hB) | (refine wpList_mnew rfl _ rfl H _ HZC.out ?_; clear H; intro Rn w1 _ H) | (refine gate_store _ _ _ rfl ?_; refine wpList_mstoreA rfl 28 _ _ rfl rfl _ rfl 0 H (cpC _) _ rfl rfl (by kernel_rfl) (by kernel_rfl) (by kernel_rfl) ?_; clear H; intro w1 H; simp only [List.set_cons_zero, List.set_cons_succ] at H) | (refine gate_load _ _ rfl ?_; refine wpList_mloadA rfl 28 _ rfl _ rfl 0 H (cpC _) rfl (by decide +kernel) (by kernel_rfl) ?_) | (refine gate_store _ _ _ rfl ?_; refine wpList_mstoreA rfl 28 _ _ rfl rfl _ rfl 2 H (cpC _) _ rfl rfl (by kernel_rfl) (by kernel_rfl) (by kernel_rfl) ?_; clear H; intro w1 H; simp only [List.set_cons_zero, List.set_cons_succ] at H) | fail)
  replace H := H.sub (List.Sublist.cons _ (List.Sublist.cons _ (List.Sublist.refl _)))
  rw [rounds_succ]
  go_wp2_with (first | (refine gate_load _ _ rfl ?_; refine wpList_mloadA rfl 28 _ rfl _ rfl 0 H (cpC _) rfl (by decide +kernel) (by kernel_rfl) ?_) | (go_at_call 14; (with_reducible refine (QA1.out _ (GG.out.mem H)).mono ?_); rintro e w2 ⟨rfl, hB⟩; replace H := H.next hB; clear hB) | (refine wpList_mnew rfl _ rfl H _ HZB.out ?_; clear H; intro Rb w1 _ H) | (refine gate_store _ _ _ rfl ?_; refine wpList_mstoreA rfl 43 _ _ rfl rfl _ rfl 0 H (bsC _) _ rfl rfl (by kernel_rfl) (by kernel_rfl) (by kernel_rfl) ?_; clear H; intro w1 H; simp only [List.set_cons_zero, List.set_cons_succ] at H) | fail)
  (try simp only [Act.put, List.setIfInBounds_toArray, List.set_cons_succ, List.set_cons_zero])
  (refine wp_region_quiet_below (by kernel_rfl) (by kernel_rfl) ?_)
  (repeat (first | (go_big_quiet_want; refine gate_qload _ _ rfl ?_; refine quiet_mload1 _ _ rfl _ _ rfl 0 H _ (.bool _) rfl rfl (by decide +kernel) ?_; simp only [Act.put, List.setIfInBounds_toArray, List.set_cons_succ, List.set_cons_zero]; go_big_quiet_on) | go_big_quiet_step (fail)))
  (refine wpQuiet_nil ?_)
  intro _ hw'
  obtain ⟨⟨dq, osq⟩, hw''⟩ := hw'
  (subst hw'')
  replace H := H.next (below_regrown _ dq osq)
  go_wp2_with (first | (refine gate_load _ _ rfl ?_; refine wpList_mloadA rfl 28 _ rfl _ rfl 1 H (cpC _) rfl (by decide +kernel) (by kernel_rfl) ?_) | (refine wpList_mbuildv rfl _ _ rfl _ (by first | (simp only [List.map_toArray, List.map_cons, List.map_nil, Act.eval]; done) | (simp only [List.map_toArray, List.map_cons, List.map_nil, Act.eval]; rfl) | rfl) _ (build_by0 _) ?_) | (refine gate_load _ _ rfl ?_; refine wpList_mloadA rfl 36 _ rfl _ rfl 5 H #[.bool _, .bool _, .bool _] rfl (by decide +kernel) (by kernel_rfl) ?_) | (go_at_call 11; (with_reducible refine (QZ1.out _ (GG.out.mem H)).mono ?_); rintro e w2 ⟨rfl, hB⟩; replace H := H.next hB; clear hB) | (refine wpList_mnew rfl _ rfl H _ HZC.out ?_; clear H; intro Rn w1 _ H) | (refine gate_store _ _ _ rfl ?_; refine wpList_mstoreA rfl 28 _ _ rfl rfl _ rfl 0 H (cpC _) _ rfl rfl (by kernel_rfl) (by kernel_rfl) (by kernel_rfl) ?_; clear H; intro w1 H; simp only [List.set_cons_zero, List.set_cons_succ] at H) | (refine gate_load _ _ rfl ?_; refine wpList_mloadA rfl 28 _ rfl _ rfl 0 H (cpC _) rfl (by decide +kernel) (by kernel_rfl) ?_) | (refine gate_store _ _ _ rfl ?_; refine wpList_mstoreA rfl 28 _ _ rfl rfl _ rfl 2 H (cpC _) _ rfl rfl (by kernel_rfl) (by kernel_rfl) (by kernel_rfl) ?_; clear H; intro w1 H; simp only [List.set_cons_zero, List.set_cons_succ] at H) | fail)
  replace H := H.sub (List.Sublist.cons _ (List.Sublist.cons _ (List.Sublist.refl _)))
  rw [rounds_succ]
  go_wp2_with (first | (refine gate_load _ _ rfl ?_; refine wpList_mloadA rfl 28 _ rfl _ rfl 0 H (cpC _) rfl (by decide +kernel) (by kernel_rfl) ?_) | (go_at_call 14; (with_reducible refine (QA2.out _ (GG.out.mem H)).mono ?_); rintro e w2 ⟨rfl, hB⟩; replace H := H.next hB; clear hB) | (refine wpList_mnew rfl _ rfl H _ HZB.out ?_; clear H; intro Rb w1 _ H) | (refine gate_store _ _ _ rfl ?_; refine wpList_mstoreA rfl 43 _ _ rfl rfl _ rfl 0 H (bsC _) _ rfl rfl (by kernel_rfl) (by kernel_rfl) (by kernel_rfl) ?_; clear H; intro w1 H; simp only [List.set_cons_zero, List.set_cons_succ] at H) | fail)
  (try simp only [Act.put, List.setIfInBounds_toArray, List.set_cons_succ, List.set_cons_zero])
  (refine wp_region_quiet_below (by kernel_rfl) (by kernel_rfl) ?_)
  (repeat (first | (go_big_quiet_want; refine gate_qload _ _ rfl ?_; refine quiet_mload 23 _ rfl _ _ rfl 0 H _ #[.int .u8 _, .bool _] rfl (by decide +kernel) (by kernel_rfl) (part2 rfl rfl) ?_; simp only [Act.put, List.setIfInBounds_toArray, List.set_cons_succ, List.set_cons_zero]; go_big_quiet_on) | (go_big_quiet_want; refine gate_qload _ _ rfl ?_; refine quiet_mload1 _ _ rfl _ _ rfl 0 H _ (.bool _) rfl rfl (by decide +kernel) ?_; simp only [Act.put, List.setIfInBounds_toArray, List.set_cons_succ, List.set_cons_zero]; go_big_quiet_on) | (go_big_quiet_want; refine gate_qload _ _ rfl ?_; refine quiet_mload1 _ _ rfl _ _ rfl 0 H _ (.int _ _) rfl rfl (by decide +kernel) ?_; simp only [Act.put, List.setIfInBounds_toArray, List.set_cons_succ, List.set_cons_zero]; go_big_quiet_on) | (go_big_quiet_want; refine gate_qload _ _ rfl ?_; refine quiet_mload1 _ _ rfl _ _ rfl 2 H _ (.int _ _) rfl rfl (by decide +kernel) ?_; simp only [Act.put, List.setIfInBounds_toArray, List.set_cons_succ, List.set_cons_zero]; go_big_quiet_on) | (go_big_quiet_want; refine gate_qload _ _ rfl ?_; refine quiet_mload1 _ _ rfl _ _ rfl 6 H _ (.int .u8 c.sv) rfl rfl (by decide +kernel) ?_; simp only [Act.put, List.setIfInBounds_toArray, List.set_cons_succ, List.set_cons_zero]; go_big_quiet_on) | (go_big_quiet_want; refine gate_qbin _ 23 _ _ _ rfl ?_; refine quiet_mbin _ 23 _ _ _ rfl _ _ _ rfl rfl (fun w => by_neqG _ _ _ _ w) ?_; simp only [Act.put, List.setIfInBounds_toArray, List.set_cons_succ, List.set_cons_zero]; go_big_quiet_on) | (go_big_quiet_want; refine gate_qbin _ 26 _ _ _ rfl ?_; refine quiet_mbin _ 26 _ _ _ rfl (.int .u16 _) (.int .u16 _) _ rfl rfl (fun w => neq_u16 (by first | rfl | omega | (simp only [IntKind.wrap_u16, IntKind.wrap_u8]; omega)) _ _ w) ?_; simp only [Act.put, List.setIfInBounds_toArray, List.set_cons_succ, List.set_cons_zero]; go_big_quiet_on) | (go_big_quiet_want; refine quiet_mbuildv _ _ rfl _ (by first | (simp only [List.map_toArray, List.map_cons, List.map_nil, Act.eval]; done) | (simp only [List.map_toArray, List.map_cons, List.map_nil, Act.eval]; rfl) | rfl) _ (build_by0 _) ?_; simp only [Act.put, List.setIfInBounds_toArray, List.set_cons_succ, List.set_cons_zero]; go_big_quiet_on) | go_big_quiet_step (fail)))
  (refine wpQuiet_nil ?_)
  intro _ hw'
  obtain ⟨⟨dq, osq⟩, hw''⟩ := hw'
  (subst hw'')
  replace H := H.next (below_regrown _ dq osq)
  go_wp2_with (first | (refine gate_load _ _ rfl ?_; refine wpList_mloadA rfl 28 _ rfl _ rfl 1 H (cpC _) rfl (by decide +kernel) (by kernel_rfl) ?_) | (refine wpList_mbuildv rfl _ _ rfl _ (by first | (simp only [List.map_toArray, List.map_cons, List.map_nil, Act.eval]; done) | (simp only [List.map_toArray, List.map_cons, List.map_nil, Act.eval]; rfl) | rfl) _ (build_by0 _) ?_) | (refine gate_load _ _ rfl ?_; refine wpList_mloadA rfl 36 _ rfl _ rfl 5 H #[.bool _, .bool _, .bool _] rfl (by decide +kernel) (by kernel_rfl) ?_) | (go_at_call 11; (with_reducible refine (QZ2.out _ (GG.out.mem H)).mono ?_); rintro e w2 ⟨rfl, hB⟩; replace H := H.next hB; clear hB) | (refine wpList_mnew rfl _ rfl H _ HZC.out ?_; clear H; intro Rn w1 _ H) | (refine gate_store _ _ _ rfl ?_; refine wpList_mstoreA rfl 28 _ _ rfl rfl _ rfl 0 H (cpC _) _ rfl rfl (by kernel_rfl) (by kernel_rfl) (by kernel_rfl) ?_; clear H; intro w1 H; simp only [List.set_cons_zero, List.set_cons_succ] at H) | (refine gate_load _ _ rfl ?_; refine wpList_mloadA rfl 28 _ rfl _ rfl 0 H (cpC _) rfl (by decide +kernel) (by kernel_rfl) ?_) | (refine gate_store _ _ _ rfl ?_; refine wpList_mstoreA rfl 28 _ _ rfl rfl _ rfl 2 H (cpC _) _ rfl rfl (by kernel_rfl) (by kernel_rfl) (by kernel_rfl) ?_; clear H; intro w1 H; simp only [List.set_cons_zero, List.set_cons_succ] at H) | fail)
  replace H := H.sub (List.Sublist.cons _ (List.Sublist.cons _ (List.Sublist.refl _)))
  rw [rounds_succ]
  go_wp2_with (first | (refine gate_load _ _ rfl ?_; refine wpList_mloadA rfl 28 _ rfl _ rfl 0 H (cpC _) rfl (by decide +kernel) (by kernel_rfl) ?_) | (go_at_call 14; (with_reducible refine (QA3.out _ (GG.out.mem H)).mono ?_); rintro e w2 ⟨rfl, hB⟩; replace H := H.next hB; clear hB) | (refine wpList_mnew rfl _ rfl H _ HZB.out ?_; clear H; intro Rb w1 _ H) | (refine gate_store _ _ _ rfl ?_; refine wpList_mstoreA rfl 43 _ _ rfl rfl _ rfl 0 H (bsC _) _ rfl rfl (by kernel_rfl) (by kernel_rfl) (by kernel_rfl) ?_; clear H; intro w1 H; simp only [List.set_cons_zero, List.set_cons_succ] at H) | fail)
  (try simp only [Act.put, List.setIfInBounds_toArray, List.set_cons_succ, List.set_cons_zero])
  (refine wp_region_quiet_below (by kernel_rfl) (by kernel_rfl) ?_)
  (repeat (first | (go_big_quiet_want; refine gate_qload _ _ rfl ?_; refine quiet_mload 23 _ rfl _ _ rfl 0 H _ #[.int .u8 _, .bool _] rfl (by decide +kernel) (by kernel_rfl) (part2 rfl rfl) ?_; simp only [Act.put, List.setIfInBounds_toArray, List.set_cons_succ, List.set_cons_zero]; go_big_quiet_on) | (go_big_quiet_want; refine gate_qload _ _ rfl ?_; refine quiet_mload1 _ _ rfl _ _ rfl 0 H _ (.bool _) rfl rfl (by decide +kernel) ?_; simp only [Act.put, List.setIfInBounds_toArray, List.set_cons_succ, List.set_cons_zero]; go_big_quiet_on) | (go_big_quiet_want; refine gate_qload _ _ rfl ?_; refine quiet_mload1 _ _ rfl _ _ rfl 0 H _ (.int _ _) rfl rfl (by decide +kernel) ?_; simp only [Act.put, List.setIfInBounds_toArray, List.set_cons_succ, List.set_cons_zero]; go_big_quiet_on) | (go_big_quiet_want; refine gate_qload _ _ rfl ?_; refine quiet_mload1 _ _ rfl _ _ rfl 2 H _ (.int _ _) rfl rfl (by decide +kernel) ?_; simp only [Act.put, List.setIfInBounds_toArray, List.set_cons_succ, List.set_cons_zero]; go_big_quiet_on) | (go_big_quiet_want; refine gate_qload _ _ rfl ?_; refine quiet_mload1 _ _ rfl _ _ rfl 6 H _ (.int .u8 c.sv) rfl rfl (by decide +kernel) ?_; simp only [Act.put, List.setIfInBounds_toArray, List.set_cons_succ, List.set_cons_zero]; go_big_quiet_on) | (go_big_quiet_want; refine gate_qbin _ 23 _ _ _ rfl ?_; refine quiet_mbin _ 23 _ _ _ rfl _ _ _ rfl rfl (fun w => by_neqG _ _ _ _ w) ?_; simp only [Act.put, List.setIfInBounds_toArray, List.set_cons_succ, List.set_cons_zero]; go_big_quiet_on) | (go_big_quiet_want; refine gate_qbin _ 26 _ _ _ rfl ?_; refine quiet_mbin _ 26 _ _ _ rfl (.int .u16 _) (.int .u16 _) _ rfl rfl (fun w => neq_u16 (by first | rfl | omega | (simp only [IntKind.wrap_u16, IntKind.wrap_u8]; omega)) _ _ w) ?_; simp only [Act.put, List.setIfInBounds_toArray, List.set_cons_succ, List.set_cons_zero]; go_big_quiet_on) | (go_big_quiet_want; refine quiet_mbuildv _ _ rfl _ (by first | (simp only [List.map_toArray, List.map_cons, List.map_nil, Act.eval]; done) | (simp only [List.map_toArray, List.map_cons, List.map_nil, Act.eval]; rfl) | rfl) _ (build_by0 _) ?_; simp only [Act.put, List.setIfInBounds_toArray, List.set_cons_succ, List.set_cons_zero]; go_big_quiet_on) | go_big_quiet_step (fail)))
  (refine wpQuiet_nil ?_)
  intro _ hw'
  obtain ⟨⟨dq, osq⟩, hw''⟩ := hw'
  (subst hw'')
  replace H := H.next (below_regrown _ dq osq)
  go_wp2_with (first | (refine gate_load _ _ rfl ?_; refine wpList_mloadA rfl 28 _ rfl _ rfl 1 H (cpC _) rfl (by decide +kernel) (by kernel_rfl) ?_) | (refine wpList_mbuildv rfl _ _ rfl _ (by first | (simp only [List.map_toArray, List.map_cons, List.map_nil, Act.eval]; done) | (simp only [List.map_toArray, List.map_cons, List.map_nil, Act.eval]; rfl) | rfl) _ (build_by0 _) ?_) | (refine gate_load _ _ rfl ?_; refine wpList_mloadA rfl 36 _ rfl _ rfl 5 H #[.bool _, .bool _, .bool _] rfl (by decide +kernel) (by kernel_rfl) ?_) | (go_at_call 11; (with_reducible refine (QZ3.out _ (GG.out.mem H)).mono ?_); rintro e w2 ⟨rfl, hB⟩; replace H := H.next hB; clear hB) | (refine wpList_mnew rfl _ rfl H _ HZC.out ?_; clear H; intro Rn w1 _ H) | (refine gate_store _ _ _ rfl ?_; refine wpList_mstoreA rfl 28 _ _ rfl rfl _ rfl 0 H (cpC _) _ rfl rfl (by kernel_rfl) (by kernel_rfl) (by kernel_rfl) ?_; clear H; intro w1 H; simp only [List.set_cons_zero, List.set_cons_succ] at H) | (refine gate_load _ _ rfl ?_; refine wpList_mloadA rfl 28 _ rfl _ rfl 0 H (cpC _) rfl (by decide +kernel) (by kernel_rfl) ?_) | (refine gate_store _ _ _ rfl ?_; refine wpList_mstoreA rfl 28 _ _ rfl rfl _ rfl 2 H (cpC _) _ rfl rfl (by kernel_rfl) (by kernel_rfl) (by kernel_rfl) ?_; clear H; intro w1 H; simp only [List.set_cons_zero, List.set_cons_succ] at H) | fail)
  replace H := H.sub (List.Sublist.cons _ (List.Sublist.cons _ (List.Sublist.refl _)))
  rw [rounds_succ]
  go_wp2_with (first | (refine gate_load _ _ rfl ?_; refine wpList_mloadA rfl 28 _ rfl _ rfl 0 H (cpC _) rfl (by decide +kernel) (by kernel_rfl) ?_) | (go_at_call 14; (with_reducible refine (QA4.out _ (GG.out.mem H)).mono ?_); rintro e w2 ⟨rfl, hB⟩; replace H := H.next hB; clear hB) | (refine wpList_mnew rfl _ rfl H _ HZB.out ?_; clear H; intro Rb w1 _ H) | (refine gate_store _ _ _ rfl ?_; refine wpList_mstoreA rfl 43 _ _ rfl rfl _ rfl 0 H (bsC _) _ rfl rfl (by kernel_rfl) (by kernel_rfl) (by kernel_rfl) ?_; clear H; intro w1 H; simp only [List.set_cons_zero, List.set_cons_succ] at H) | fail)
  (try simp only [Act.put, List.setIfInBounds_toArray, List.set_cons_succ, List.set_cons_zero])
  (refine wp_region_quiet_below (by kernel_rfl) (by kernel_rfl) ?_)
  (repeat (first | (go_big_quiet_want; refine gate_qload _ _ rfl ?_; refine quiet_mload 23 _ rfl _ _ rfl 0 H _ #[.int .u8 _, .bool _] rfl (by decide +kernel) (by kernel_rfl) (part2 rfl rfl) ?_; simp only [Act.put, List.setIfInBounds_toArray, List.set_cons_succ, List.set_cons_zero]; go_big_quiet_on) | (go_big_quiet_want; refine gate_qload _ _ rfl ?_; refine quiet_mload1 _ _ rfl _ _ rfl 0 H _ (.bool _) rfl rfl (by decide +kernel) ?_; simp only [Act.put, List.setIfInBounds_toArray, List.set_cons_succ, List.set_cons_zero]; go_big_quiet_on) | (go_big_quiet_want; refine gate_qload _ _ rfl ?_; refine quiet_mload1 _ _ rfl _ _ rfl 0 H _ (.int _ _) rfl rfl (by decide +kernel) ?_; simp only [Act.put, List.setIfInBounds_toArray, List.set_cons_succ, List.set_cons_zero]; go_big_quiet_on) | (go_big_quiet_want; refine gate_qload _ _ rfl ?_; refine quiet_mload1 _ _ rfl _ _ rfl 2 H _ (.int _ _) rfl rfl (by decide +kernel) ?_; simp only [Act.put, List.setIfInBounds_toArray, List.set_cons_succ, List.set_cons_zero]; go_big_quiet_on) | (go_big_quiet_want; refine gate_qload _ _ rfl ?_; refine quiet_mload1 _ _ rfl _ _ rfl 6 H _ (.int .u8 c.sv) rfl rfl (by decide +kernel) ?_; simp only [Act.put, List.setIfInBounds_toArray, List.set_cons_succ, List.set_cons_zero]; go_big_quiet_on) | (go_big_quiet_want; refine gate_qbin _ 23 _ _ _ rfl ?_; refine quiet_mbin _ 23 _ _ _ rfl _ _ _ rfl rfl (fun w => by_neqG _ _ _ _ w) ?_; simp only [Act.put, List.setIfInBounds_toArray, List.set_cons_succ, List.set_cons_zero]; go_big_quiet_on) | (go_big_quiet_want; refine gate_qbin _ 26 _ _ _ rfl ?_; refine quiet_mbin _ 26 _ _ _ rfl (.int .u16 _) (.int .u16 _) _ rfl rfl (fun w => neq_u16 (by first | rfl | omega | (simp only [IntKind.wrap_u16, IntKind.wrap_u8]; omega)) _ _ w) ?_; simp only [Act.put, List.setIfInBounds_toArray, List.set_cons_succ, List.set_cons_zero]; go_big_quiet_on) | (go_big_quiet_want; refine quiet_mbuildv _ _ rfl _ (by first | (simp only [List.map_toArray, List.map_cons, List.map_nil, Act.eval]; done) | (simp only [List.map_toArray, List.map_cons, List.map_nil, Act.eval]; rfl) | rfl) _ (build_by0 _) ?_; simp only [Act.put, List.setIfInBounds_toArray, List.set_cons_succ, List.set_cons_zero]; go_big_quiet_on) | go_big_quiet_step (fail)))
  (refine wpQuiet_nil ?_)
  intro _ hw'
  obtain ⟨⟨dq, osq⟩, hw''⟩ := hw'
  (subst hw'')
  replace H := H.next (below_regrown _ dq osq)
  go_wp2_with (first | (refine gate_load _ _ rfl ?_; refine wpList_mloadA rfl 28 _ rfl _ rfl 1 H (cpC _) rfl (by decide +kernel) (by kernel_rfl) ?_) | (refine wpList_mbuildv rfl _ _ rfl _ (by first | (simp only [List.map_toArray, List.map_cons, List.map_nil, Act.eval]; done) | (simp only [List.map_toArray, List.map_cons, List.map_nil, Act.eval]; rfl) | rfl) _ (build_by0 _) ?_) | (refine gate_load _ _ rfl ?_; refine wpList_mloadA rfl 36 _ rfl _ rfl 5 H #[.bool _, .bool _, .bool _] rfl (by decide +kernel) (by kernel_rfl) ?_) | (go_at_call 11; (with_reducible refine (QZ4.out _ (GG.out.mem H)).mono ?_); rintro e w2 ⟨rfl, hB⟩; replace H := H.next hB; clear hB) | (refine wpList_mnew rfl _ rfl H _ HZC.out ?_; clear H; intro Rn w1 _ H) | (refine gate_store _ _ _ rfl ?_; refine wpList_mstoreA rfl 28 _ _ rfl rfl _ rfl 0 H (cpC _) _ rfl rfl (by kernel_rfl) (by kernel_rfl) (by kernel_rfl) ?_; clear H; intro w1 H; simp only [List.set_cons_zero, List.set_cons_succ] at H) | (refine gate_load _ _ rfl ?_; refine wpList_mloadA rfl 28 _ rfl _ rfl 0 H (cpC _) rfl (by decide +kernel) (by kernel_rfl) ?_) | (refine gate_store _ _ _ rfl ?_; refine wpList_mstoreA rfl 28 _ _ rfl rfl _ rfl 2 H (cpC _) _ rfl rfl (by kernel_rfl) (by kernel_rfl) (by kernel_rfl) ?_; clear H; intro w1 H; simp only [List.set_cons_zero, List.set_cons_succ] at H) | fail)
  replace H := H.sub (List.Sublist.cons _ (List.Sublist.cons _ (List.Sublist.refl _)))
  rw [rounds_succ]
  go_wp2_with (first | (refine gate_load _ _ rfl ?_; refine wpList_mloadA rfl 28 _ rfl _ rfl 0 H (cpC _) rfl (by decide +kernel) (by kernel_rfl) ?_) | (go_at_call 14; (with_reducible refine (QA5.out _ (GG.out.mem H)).mono ?_); rintro e w2 ⟨rfl, hB⟩; replace H := H.next hB; clear hB) | (refine wpList_mnew rfl _ rfl H _ HZB.out ?_; clear H; intro Rb w1 _ H) | (refine gate_store _ _ _ rfl ?_; refine wpList_mstoreA rfl 43 _ _ rfl rfl _ rfl 0 H (bsC _) _ rfl rfl (by kernel_rfl) (by kernel_rfl) (by kernel_rfl) ?_; clear H; intro w1 H; simp only [List.set_cons_zero, List.set_cons_succ] at H) | fail)
  (try simp only [Act.put, List.setIfInBounds_toArray, List.set_cons_succ, List.set_cons_zero])
  (refine wp_region_quiet_below (by kernel_rfl) (by kernel_rfl) ?_)
  (repeat (first | (go_big_quiet_want; refine gate_qload _ _ rfl ?_; refine quiet_mload1 _ _ rfl _ _ rfl 0 H _ (.bool _) rfl rfl (by decide +kernel) ?_; simp only [Act.put, List.setIfInBounds_toArray, List.set_cons_succ, List.set_cons_zero]; go_big_quiet_on) | go_big_quiet_step (fail)))
  (refine wpQuiet_nil ?_)
  intro _ hw'
  obtain ⟨⟨dq, osq⟩, hw''⟩ := hw'
  (subst hw'')
  replace H := H.next (below_regrown _ dq osq)
  go_wp2_with (first | (refine gate_load _ _ rfl ?_; refine wpList_mload1 rfl _ _ rfl _ _ rfl 0 H _ (.int _ _) rfl rfl (by decide +kernel) ?_) | (refine gate_load _ _ rfl ?_; refine wpList_mloadA rfl 28 _ rfl _ rfl 1 H (cpC _) rfl (by decide +kernel) (by kernel_rfl) ?_) | (refine wpList_mbuildv rfl _ _ rfl _ (by first | (simp only [List.map_toArray, List.map_cons, List.map_nil, Act.eval]; done) | (simp only [List.map_toArray, List.map_cons, List.map_nil, Act.eval]; rfl) | rfl) _ (build_by0 _) ?_) | (refine gate_load _ _ rfl ?_; refine wpList_mloadA rfl 36 _ rfl _ rfl 5 H #[.bool _, .bool _, .bool _] rfl (by decide +kernel) (by kernel_rfl) ?_) | (go_at_call 11; (with_reducible refine (QZ5.out _ (GG.out.mem H)).mono ?_); rintro e w2 ⟨rfl, hB⟩; replace H := H.next hB; clear hB) | (refine wpList_mnew rfl _ rfl H _ HZC.out ?_; clear H; intro Rn w1 _ H) | (refine gate_store _ _ _ rfl ?_; refine wpList_mstoreA rfl 28 _ _ rfl rfl _ rfl 0 H (cpC _) _ rfl rfl (by kernel_rfl) (by kernel_rfl) (by kernel_rfl) ?_; clear H; intro w1 H; simp only [List.set_cons_zero, List.set_cons_succ] at H) | (refine gate_load _ _ rfl ?_; refine wpList_mloadA rfl 28 _ rfl _ rfl 0 H (cpC _) rfl (by decide +kernel) (by kernel_rfl) ?_) | (refine gate_store _ _ _ rfl ?_; refine wpList_mstoreA rfl 28 _ _ rfl rfl _ rfl 2 H (cpC _) _ rfl rfl (by kernel_rfl) (by kernel_rfl) (by kernel_rfl) ?_; clear H; intro w1 H; simp only [List.set_cons_zero, List.set_cons_succ] at H) | fail)
  replace H := H.sub (List.Sublist.cons _ (List.Sublist.cons _ (List.Sublist.refl _)))
  rw [rounds_succ]
  go_wp2_with (first | (refine gate_load _ _ rfl ?_; refine wpList_mloadA rfl 28 _ rfl _ rfl 0 H (cpC _) rfl (by decide +kernel) (by kernel_rfl) ?_) | (go_at_call 14; (with_reducible refine (QA6.out _ (GG.out.mem H)).mono ?_); rintro e w2 ⟨rfl, hB⟩; replace H := H.next hB; clear hB) | (refine wpList_mnew rfl _ rfl H _ HZB.out ?_; clear H; intro Rb w1 _ H) | (refine gate_store _ _ _ rfl ?_; refine wpList_mstoreA rfl 43 _ _ rfl rfl _ rfl 0 H (bsC _) _ rfl rfl (by kernel_rfl) (by kernel_rfl) (by kernel_rfl) ?_; clear H; intro w1 H; simp only [List.set_cons_zero, List.set_cons_succ] at H) | fail)
  (try simp only [Act.put, List.setIfInBounds_toArray, List.set_cons_succ, List.set_cons_zero])
  (refine wp_region_quiet_below (by kernel_rfl) (by kernel_rfl) ?_)
  (repeat (first | (go_big_quiet_want; refine gate_qload _ _ rfl ?_; refine quiet_mload1 _ _ rfl _ _ rfl 0 H _ (.bool _) rfl rfl (by decide +kernel) ?_; simp only [Act.put, List.setIfInBounds_toArray, List.set_cons_succ, List.set_cons_zero]; go_big_quiet_on) | go_big_quiet_step (fail)))
  (refine wpQuiet_nil ?_)
  intro _ hw'
  obtain ⟨⟨dq, osq⟩, hw''⟩ := hw'
  (subst hw'')
  replace H := H.next (below_regrown _ dq osq)
  go_wp2_with (first | (refine gate_load _ _ rfl ?_; refine wpList_mloadA rfl 28 _ rfl _ rfl 1 H (cpC _) rfl (by decide +kernel) (by kernel_rfl) ?_) | (refine wpList_mbuildv rfl _ _ rfl _ (by first | (simp only [List.map_toArray, List.map_cons, List.map_nil, Act.eval]; done) | (simp only [List.map_toArray, List.map_cons, List.map_nil, Act.eval]; rfl) | rfl) _ (build_by0 _) ?_) | (refine gate_load _ _ rfl ?_; refine wpList_mloadA rfl 36 _ rfl _ rfl 5 H #[.bool _, .bool _, .bool _] rfl (by decide +kernel) (by kernel_rfl) ?_) | (go_at_call 11; (with_reducible refine (QZ6.out _ (GG.out.mem H)).mono ?_); rintro e w2 ⟨rfl, hB⟩; replace H := H.next hB; clear hB) | (refine wpList_mnew rfl _ rfl H _ HZC.out ?_; clear H; intro Rn w1 _ H) | (refine gate_store _ _ _ rfl ?_; refine wpList_mstoreA rfl 28 _ _ rfl rfl _ rfl 0 H (cpC _) _ rfl rfl (by kernel_rfl) (by kernel_rfl) (by kernel_rfl) ?_; clear H; intro w1 H; simp only [List.set_cons_zero, List.set_cons_succ] at H) | (refine gate_load _ _ rfl ?_; refine wpList_mloadA rfl 28 _ rfl _ rfl 0 H (cpC _) rfl (by decide +kernel) (by kernel_rfl) ?_) | (refine gate_store _ _ _ rfl ?_; refine wpList_mstoreA rfl 28 _ _ rfl rfl _ rfl 2 H (cpC _) _ rfl rfl (by kernel_rfl) (by kernel_rfl) (by kernel_rfl) ?_; clear H; intro w1 H; simp only [List.set_cons_zero, List.set_cons_succ] at H) | fail)
  replace H := H.sub (List.Sublist.cons _ (List.Sublist.cons _ (List.Sublist.refl _)))
  rw [rounds_succ]
  go_wp2_with (first | (refine gate_load _ _ rfl ?_; refine wpList_mloadA rfl 28 _ rfl _ rfl 3 H (cpC _) rfl (by decide +kernel) (by kernel_rfl) ?_) | (refine wpList_mbuildv rfl _ _ rfl _ (by first | (simp only [List.map_toArray, List.map_cons, List.map_nil, Act.eval]; done) | (simp only [List.map_toArray, List.map_cons, List.map_nil, Act.eval]; rfl) | rfl) _ (build_by0 _) ?_) | (refine wpList_mbuildv rfl _ _ rfl _ (by first | (simp only [List.map_toArray, List.map_cons, List.map_nil, Act.eval]; done) | (simp only [List.map_toArray, List.map_cons, List.map_nil, Act.eval]; rfl) | rfl) _ build_lnR ?_) | (go_at_call 11; (with_reducible refine (QR.out _ (GG.out.mem H)).mono ?_); rintro e w2 ⟨rfl, hB⟩; replace H := H.next hB; clear hB) | (refine wpList_mnew rfl _ rfl H _ HZC.out ?_; clear H; intro Rz w1 _ H) | (refine gate_store _ _ _ rfl ?_; refine wpList_mstoreA rfl 28 _ _ rfl rfl _ rfl 0 H (cpC _) _ rfl rfl (by kernel_rfl) (by kernel_rfl) (by kernel_rfl) ?_; clear H; intro w1 H; simp only [List.set_cons_zero, List.set_cons_succ] at H) | (refine gate_load _ _ rfl ?_; refine wpList_mload1 rfl _ _ rfl _ _ rfl 1 H _ (.int .i64 0) rfl (by exact Et.out) (by decide +kernel) ?_) | (refine gate_load _ _ rfl ?_; refine wpList_mload1 rfl _ _ rfl _ _ rfl 1 H _ (.int .i64 0) rfl (by exact Ei.out) (by decide +kernel) ?_) | (refine gate_load _ _ rfl ?_; refine wpList_mload1 rfl _ _ rfl _ _ rfl 1 H _ (.int .u16 _) rfl (by exact Ec.out) (by decide +kernel) ?_) | (refine gate_load _ _ rfl ?_; refine wpList_mload1 rfl _ _ rfl _ _ rfl 1 H _ (.int .u8 _) rfl (by exact Ep.out) (by decide +kernel) ?_) | (refine gate_load _ _ rfl ?_; refine wpList_mload1 rfl _ _ rfl _ _ rfl 1 H _ (.bool false) rfl (by exact Eg.out) (by decide +kernel) ?_) | (refine gate_load _ _ rfl ?_; refine wpList_mload1 rfl _ _ rfl _ _ rfl 0 H _ (.int .i64 0) rfl (by exact Zt.out) (by decide +kernel) ?_) | (refine gate_load _ _ rfl ?_; refine wpList_mload1 rfl _ _ rfl _ _ rfl 0 H _ (.int .i64 3) rfl (by exact Zi.out) (by decide +kernel) ?_) | (refine wpList_mbin rfl _ 26 _ _ _ rfl (.int .u16 _) (.int .u16 _) (.bool true) rfl rfl (fun w => eql_u16 (by first | rfl | omega | (simp only [IntKind.wrap_u16]; omega)) _ _ w) ?_) | (go_at_call 10; (with_reducible refine (QW.out _ (GG.out.mem H)).mono ?_); rintro e w2 ⟨rfl, hB⟩; replace H := H.next hB; clear hB) | fail)
  go_ret
  exact ⟨rfl, H.toBelow⟩
end Go.Proofs.YtopmlmpadkdhjaaGreatDoor
namespace Go.Proofs.YtopmlmpadkdhjaaGreatDoor
open Go.RowKit
set_option linter.unusedSimpArgs false
set_option linter.unusedVariables false
set_option maxRecDepth 20000

attribute [local irreducible] wpList
set_option maxHeartbeats 16000000 in
theorem kint_no (c : Cp) (v : Int) (W : World) (G : GlobO W) (O : Oct c) (v0 : 0 ≤ v) (v1 : v < 256) (h4 : hasV (clr c.p) 4 = true) : Calls Tryz.prog 6 #[.agg (cpC c), .bool false, .int .u8 v] W fun e w' => e = .returned (.bool true) ∧ Below W.heap.size W w' := by
  have FC := clear_fit O
  have F0 : Fit { c with p := clr c.p, ps := clr c.ps } := ⟨O.a0, O.a1, O.x0, O.x1, O.y0, O.y1, O.s0, O.s1, (clr_le _ O.p0 O.p1).1, (clr_le _ O.p0 O.p1).2, (clr_le _ O.q0 O.q1).1, (clr_le _ O.q0 O.q1).2, clr_clr _, clr_clr _, O.pc0, O.pc1, O.op0, O.op1, O.ad0, O.ad1, O.d0, O.d1⟩
  have e0 : clear0 { c with p := clr c.p, ps := clr c.ps } = clear0 c := by
    unfold clear0
    rw [clr_clr]
  have IFb0 := int_first { c with p := clr c.p, ps := clr c.ps } v false F0
  have ei : iM { c with p := clr c.p, ps := clr c.ps } v false 0 = iM c v false 0 := by unfold iM; rw [e0]
  rw [ei] at IFb0
  have IFb : (iM c v false 0).t = 0 ∧ (iM c v false 0).intr = 0 ∧ (iM c v false 0).pc = (c.pc + 1) % 65536 := ⟨IFb0.1, IFb0.2.1.trans (by show (if false = true then 2 else if hasV (clr (clr c.p)) 4 = true then 0 else 1 : Int) = _; rw [clr_clr, h4]; rfl), IFb0.2.2.1⟩
  have hb : (bits .and .u8 (clr c.p) 4 == 0) = false := by rw [and_four _ (clr_le _ O.p0 O.p1).1 (clr_le _ O.p0 O.p1).2, h4]; rfl
  have okY := take_ok (clear0 c) 234 false true false false FC (clear_ok c) (by decide) (by decide)
  have QT0 := Lib.hid (fun wr (g : GlobO wr) => (show Calls Tryz.prog 11 #[.agg (cpC (clear0 c)), .agg #[.int .u8 234, .bool false], .agg #[.bool true, .bool false, .bool false]] wr fun e w' => e = .returned (.tuple #[.agg (cpC (takeM (clear0 c) 234 false true false false)), .int .i64 0]) ∧ Below wr.heap.size wr w' from take_ct (clear0 c) 234 false true false false (show okB (clear0 c) = true ∧ Fit (clear0 c) from ⟨clear_ok c, FC⟩).2 (show okB (clear0 c) = true ∧ Fit (clear0 c) from ⟨clear_ok c, FC⟩).1 (by decide) (by decide) wr g))
  have QT1 := Lib.hid (fun wr (g : GlobO wr) => (show Calls Tryz.prog 11 #[.agg (cpC (takeM (clear0 c) 234 false true false false)), .agg #[.int .u8 v, .bool false], .agg #[.bool true, .bool false, .bool false]] wr fun e w' => e = .returned (.tuple #[.agg (cpC (iM c v false 0)), .int .i64 0]) ∧ Below wr.heap.size wr w' from take_ct (takeM (clear0 c) 234 false true false false) v false true false false (show okB _ = true ∧ Fit _ from ⟨okY.1, okY.2.1⟩).2 (show okB _ = true ∧ Fit _ from ⟨okY.1, okY.2.1⟩).1 v0 v1 wr g))
  have Kt := Lib.hid (show (cpC (iM c v false 0))[13]? = some (.int .i64 0) by show some (Value.int .i64 (iM c v false 0).t) = _; rw [IFb.1])
  have Ki := Lib.hid (show (cpC (iM c v false 0))[19]? = some (.int .i64 0) by show some (Value.int .i64 (iM c v false 0).intr) = _; rw [IFb.2.1])
  obtain ⟨P, hP⟩ : ∃ P, P = (c.pc + 1) % 65536 := ⟨_, rfl⟩
  rw [← hP] at IFb
  have P0 : 0 ≤ P := by omega
  have P1 : P < 65536 := by omega
  have HP := Lib.hid hP
  have Kc := Lib.hid (show (cpC (iM c v false 0))[10]? = some (.int .u16 P) by show some (Value.int .u16 (iM c v false 0).pc) = _; rw [IFb.2.2])
  generalize takeM (clear0 c) 234 false true false false = y at *
  generalize iM c v false 0 = z0 at *
  have HO := Lib.hid O
  clear IFb IFb0 FC F0 e0 ei okY hP
  have QW := Lib.hid (fun wr (g : GlobO wr) => kawake_ct wr g)
  have HZC := Lib.hid alloc_cpu
  have HZL := Lib.hid alloc_ln
  have GG := Lib.hid G
  clear G
  have H := Mem.start W
  have M1 : True := trivial
  have M2 : True := trivial
  have M3 : True := trivial
  have M4 : True := trivial
  have M5 : True := trivial
  have M6 : True := trivial
  have M7 : True := trivial
  have M8 : True := trivial
  go_enter Tryz.func6, Tryz.ntmps6
  go_wp2_with (first | (clear M1; refine wpList_mboxA rfl _ _ rfl H _ rfl ?_; clear H; intro Rc w1 _ H) | fail)
  (refine wp_region_tails_below 18 (by kernel_rfl) (by kernel_rfl) ?_)
  (simp only [List.take_succ_cons, List.take_zero, List.drop_succ_cons, List.drop_zero])
  (repeat (first | (go_big_quiet_want; refine gate_qload _ _ rfl ?_; refine quiet_mload 23 _ rfl _ _ rfl 0 H _ #[.int .u8 _, .bool _] rfl (by decide +kernel) (by kernel_rfl) (part2 rfl rfl) ?_; simp only [Act.put, List.setIfInBounds_toArray, List.set_cons_succ, List.set_cons_zero]; go_big_quiet_on) | (go_big_quiet_want; refine gate_qload _ _ rfl ?_; refine quiet_mload 25 _ rfl _ _ rfl 0 H _ #[.int .u8 _, .int .u8 _] rfl (by decide +kernel) (by kernel_rfl) (part2 rfl rfl) ?_; simp only [Act.put, List.setIfInBounds_toArray, List.set_cons_succ, List.set_cons_zero]; go_big_quiet_on) | (go_big_quiet_want; refine gate_qload _ _ rfl ?_; refine quiet_mload1 _ _ rfl _ _ rfl 0 H _ (.int _ _) rfl rfl (by decide +kernel) ?_; simp only [Act.put, List.setIfInBounds_toArray, List.set_cons_succ, List.set_cons_zero]; go_big_quiet_on) | (go_big_quiet_want; refine quiet_mfield _ _ _ rfl (.agg #[.int .u8 _, .int .u8 _]) _ rfl (fun w => field_fl _ _ w) ?_; simp only [Act.put, List.setIfInBounds_toArray, List.set_cons_succ, List.set_cons_zero]; go_big_quiet_on) | (go_big_quiet_want; refine quiet_mbuildv _ _ rfl _ (by first | (simp only [List.map_toArray, List.map_cons, List.map_nil, Act.eval]; done) | (simp only [List.map_toArray, List.map_cons, List.map_nil, Act.eval]; rfl) | rfl) _ (build_by0 _) ?_; simp only [Act.put, List.setIfInBounds_toArray, List.set_cons_succ, List.set_cons_zero]; go_big_quiet_on) | (go_big_quiet_want; refine quiet_mbuildv _ _ rfl _ (by first | (simp only [List.map_toArray, List.map_cons, List.map_nil, Act.eval]; done) | (simp only [List.map_toArray, List.map_cons, List.map_nil, Act.eval]; rfl) | rfl) _ (build_fl0 _) ?_; simp only [Act.put, List.setIfInBounds_toArray, List.set_cons_succ, List.set_cons_zero]; go_big_quiet_on) | (go_big_quiet_want; refine quiet_mbuildv _ _ rfl _ (by first | (simp only [List.map_toArray, List.map_cons, List.map_nil, Act.eval]; done) | (simp only [List.map_toArray, List.map_cons, List.map_nil, Act.eval]; rfl) | rfl) _ (build_clear _) ?_; simp only [Act.put, List.setIfInBounds_toArray, List.set_cons_succ, List.set_cons_zero]; go_big_quiet_on) | go_big_quiet_step (first | (go_at_call 19; (with_reducible exact Calls.regrown_of (qcheck_ct _ _ _ HO.out.p0 HO.out.p1 HO.out.q0 HO.out.q1))) | fail)))
  (refine wpQuiet_nil ?_)
  intro _ hw'
  obtain ⟨⟨dq, osq⟩, hw''⟩ := hw'
  (subst hw'')
  replace H := H.next (below_regrown _ dq osq)
  go_wp2_with (first | (refine gate_store _ _ _ rfl ?_; refine wpList_mstoreA rfl 28 _ _ rfl rfl _ rfl 0 H (cpC _) _ rfl rfl (by kernel_rfl) (by kernel_rfl) (by kernel_rfl) ?_; clear H; intro w1 H; simp only [List.set_cons_zero, List.set_cons_succ] at H) | (refine wpList_mbuildv rfl _ _ rfl _ (by first | (simp only [List.map_toArray, List.map_cons, List.map_nil, Act.eval]; done) | (simp only [List.map_toArray, List.map_cons, List.map_nil, Act.eval]; rfl) | rfl) _ (build_lnA _ _) ?_) | (clear M2; refine wpList_mnew rfl _ rfl H _ HZL.out ?_; clear H; intro Rl w1 _ H) | (refine gate_store _ _ _ rfl ?_; refine wpList_mstoreA rfl 36 _ _ rfl rfl _ rfl 0 H #[.bool _, .bool _, .bool _] _ rfl rfl (by kernel_rfl) (by kernel_rfl) (by kernel_rfl) ?_; clear H; intro w1 H; simp only [List.set_cons_zero, List.set_cons_succ] at H) | (refine gate_load _ _ rfl ?_; refine wpList_mloadA rfl 28 _ rfl _ rfl 1 H (cpC _) rfl (by decide +kernel) (by kernel_rfl) ?_) | (refine wpList_mbuildv rfl _ _ rfl _ (by first | (simp only [List.map_toArray, List.map_cons, List.map_nil, Act.eval]; done) | (simp only [List.map_toArray, List.map_cons, List.map_nil, Act.eval]; rfl) | rfl) _ (build_by0 _) ?_) | (refine gate_load _ _ rfl ?_; refine wpList_mloadA rfl 36 _ rfl _ rfl 0 H #[.bool _, .bool _, .bool _] rfl (by decide +kernel) (by kernel_rfl) ?_) | (go_at_call 11; (with_reducible refine (QT0.out _ (GG.out.mem H)).mono ?_); rintro e w2 ⟨rfl, hB⟩; replace H := H.next hB; clear hB) | (clear M3; refine wpList_mnew rfl _ rfl H _ HZC.out ?_; clear H; intro Rf w1 _ H) | (refine gate_load _ _ rfl ?_; refine wpList_mloadA rfl 36 _ rfl _ rfl 1 H #[.bool _, .bool _, .bool _] rfl (by decide +kernel) (by kernel_rfl) ?_) | (go_at_call 11; (with_reducible refine (QT1.out _ (GG.out.mem H)).mono ?_); rintro e w2 ⟨rfl, hB⟩; replace H := H.next hB; clear hB) | (clear M4; refine wpList_mnew rfl _ rfl H _ HZC.out ?_; clear H; intro Rq w1 _ H) | (refine gate_load _ _ rfl ?_; refine wpList_mloadA rfl 28 _ rfl _ rfl 0 H (cpC _) rfl (by decide +kernel) (by kernel_rfl) ?_) | (refine gate_load _ _ rfl ?_; refine wpList_mload1 rfl _ _ rfl _ _ rfl 3 H _ (.int .u8 (clr c.p)) rfl rfl (by decide +kernel) ?_) | (refine gate_load _ _ rfl ?_; refine wpList_mload1 rfl _ _ rfl _ _ rfl 3 H _ (.int .u16 c.pc) rfl rfl (by decide +kernel) ?_) | (refine gate_load _ _ rfl ?_; refine wpList_mload1 rfl _ _ rfl _ _ rfl 0 H _ (.int .i64 0) rfl (by exact Kt.out) (by decide +kernel) ?_) | (refine gate_load _ _ rfl ?_; refine wpList_mload1 rfl _ _ rfl _ _ rfl 0 H _ (.int .i64 0) rfl (by exact Ki.out) (by decide +kernel) ?_) | (refine gate_load _ _ rfl ?_; refine wpList_mload1 rfl _ _ rfl _ _ rfl 0 H _ (.int .u16 _) rfl (by exact Kc.out) (by decide +kernel) ?_) | (refine wpList_mbin rfl _ 26 _ _ _ rfl (.int .u16 _) (.int .u16 _) (.bool false) rfl rfl (fun w => neq_u16 (by first | rfl | (rw [HP.out, IntKind.wrap_u16]; done) | (rw [HP.out, IntKind.wrap_u16]; rfl) | omega) _ _ w) ?_) | (go_at_call 10; (with_reducible refine (QW.out _ (GG.out.mem H)).mono ?_); rintro e w2 ⟨rfl, hB⟩; replace H := H.next hB; clear hB) | fail)
  go_ret
  exact ⟨rfl, H.toBelow⟩
end Go.Proofs.YtopmlmpadkdhjaaGreatDoor
namespace Go.Proofs.YtopmlmpadkdhjaaGreatDoor
open Go.RowKit
set_option linter.unusedSimpArgs false
set_option linter.unusedVariables false
set_option maxRecDepth 20000

theorem kints_walk (c : Cp) (nmi : Bool) (v : Int) (W : World) (G : GlobO W) (O : Oct c) (v0 : 0 ≤ v) (v1 : v < 256) : Calls Tryz.prog 6 #[.agg (cpC c), .bool nmi, .int .u8 v] W fun e w' => e = .returned (.bool true) ∧ Below W.heap.size W w' := by
  cases nmi
  · cases h4 : hasV (clr c.p) 4
    · exact kint_f c v W G O v0 v1 (by rw [h4]; rfl) (by rw [and_four _ (clr_le _ O.p0 O.p1).1 (clr_le _ O.p0 O.p1).2, h4]; rfl)
    · exact kint_no c v W G O v0 v1 h4
  · exact kint_t c v W G O v0 v1 rfl
end Go.Proofs.YtopmlmpadkdhjaaGreatDoor
