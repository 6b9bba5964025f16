/-
  Several texts in one: what is read and written by the functions on the way to the statements. Conditions stand in each theorem.
-/
import Derived.Test.YtopmlmpadkdhjaaGreatDoorZ30
import Derived.Test.YtopmlmpadkdhjaaGreatDoorZ31
import Derived.Test.YtopmlmpadkdhjaaGreatDoorZ32
import Derived.Test.YtopmlmpadkdhjaaGreatDoorZ10
namespace Go.Proofs.YtopmlmpadkdhjaaGreatDoor
open Go.RowKit
set_option linter.unusedSimpArgs false
set_option linter.unusedVariables false
set_option maxRecDepth 20000

theorem ask_hb (k : AskI) : ((Tryz.prog.funcs[askF k]?).map fun fn => fn.body.isNone || fn.name == "runtime.NumGoroutine") = some false := by cases k <;> kernel_rfl
theorem do_hb (k : DoI) : ((Tryz.prog.funcs[doF k]?).map fun fn => fn.body.isNone || fn.name == "runtime.NumGoroutine") = some false := by cases k <;> kernel_rfl
theorem wpList_callf {P : Program} {ops : Array Oper} {rest : List Oper} {o : Oper} {a : Act} {w : World} {Q : Exit → Act → World → Prop} (hgd : Region.wanted o (yielded ops a.tmps) = true) {f : FuncId} {c : Call} {x : Operand} {vals : Array Value} {R : Ending → World → Prop} (ho : o.op = .call c) (hc : c.callee = .value x) (hx : a.eval x = .func (.func f) #[] #[]) (ha : c.args.map a.eval = vals)
    (hb : ((P.funcs[f]?).map fun fn => fn.body.isNone || fn.name == "runtime.NumGoroutine") = some false) (hC : Calls P f vals w R) (h : ∀ e w', R e w' → ∃ v, e = .returned v ∧ wpList P ops Q rest (a.put o.dst v) w') : wpList P ops Q (o :: rest) a w :=
  wpList_want' hgd fun _ hK => wp_callc (caps := #[]) ho hc hx ha hb (by simp) hC fun e w' hr => by
    obtain ⟨v, hv, hl⟩ := h e w' hr
    exact ⟨v, hv, hK _ _ hl⟩
theorem wpList_mbuildv {P : Program} {ops : Array Oper} {rest : List Oper} {o : Oper} {a : Act} {w : World} {Q : Exit → Act → World → Prop} (hgd : Region.wanted o (yielded ops a.tmps) = true) (T : TypeId) (xs : Array (Nat × Operand)) (ho : o.op = .build T xs) (vs : Array (Nat × Value)) (hx : xs.map (fun (i, x) => (i, a.eval x)) = vs) (r : Value)
    (hr : ∀ w : World, (Instr.build T vs).run P w = .ok r w) (h : wpList P ops Q rest (a.put o.dst r) w) : wpList P ops Q (o :: rest) a w :=
  wpList_want' hgd fun _ hK => by
    unfold Oper.wp execOp
    simp only [ho, hx, Sem.run_bind, Sem.run_pure, hr, Result.andThen_ok, Oper.upon]
    exact hK _ _ h
theorem build_wk (c : Cp) (v : Int) (b : Bool) (w : World) : (Instr.build 81 #[(0, .agg (cpC c)), (2, .agg #[.int .u8 v, .bool b])]).run Tryz.prog w = .ok (.agg (wkC (emptyW c v b))) w := by kernel_rfl
theorem build_wk1 (c : Cp) (w : World) : (Instr.build 81 #[(0, .agg (cpC c))]).run Tryz.prog w = .ok (.agg (wkC (emptyW c 0 false))) w := by kernel_rfl
theorem field_sc (b : Bs) (z : Bool) (h : b.sc = z) (w : World) : (Instr.field 43 (.agg (bsC b)) 3).run Tryz.prog w = .ok (.bool z) w := by
  subst h
  kernel_rfl
theorem Fit.empty {c : Cp} (F : Fit c) {v : Int} {b : Bool} (v0 : 0 ≤ v) (v1 : v < 256) : Fiw (emptyW c v b) := ⟨F, v0, v1⟩
theorem Fit.turn {s : Wk} (F : Fiw s) : Fiw (turnW s) := ⟨by rw [turnW_cp]; exact F.f, by rw [turnW_v]; exact F.v0, by rw [turnW_v]; exact F.v1⟩
theorem Fit.ctl {s : Wk} (F : Fiw s) (b : Bool) : Fiw (s.uCtl b) := ⟨{ F.f with }, F.v0, F.v1⟩
theorem Fit.fend {s : Wk} (F : Fiw s) : Fiw (endW s) := by
  unfold endW
  split
  · exact ⟨{ F.f with }, F.v0, F.v1⟩
  · split <;> exact ⟨{ F.f with }, F.v0, F.v1⟩
theorem turn_ct (s : Wk) (F : Fiw s) (h : okB s.toCp = true) (R : Nat) (T : TypeId) (w : World) (G : GlobO w) (hR : w.heap[R]? = some (.cells (wkC s) T)) : Calls Tryz.prog 36 #[.pointer (some ⟨R, 0, none⟩)] w fun e w' => e = .returned (.agg #[.func (.func (askF (turnS s).1)) #[] #[], .func (.func (doF (turnS s).2)) #[] #[]]) ∧ Mem w.heap.size [R] w w' [(R, wkC (turnW s))] := by
  obtain ⟨⟨t0, t1⟩, _⟩ := (okB_iff _).1 h
  by_cases h0 : s.t = 0
  · exact turn_0 s F h0 R T w G hR
  · exact turn_1 s F h0 t0 t1 R T w G hR
attribute [local irreducible] wpList
set_option maxHeartbeats 4000000 in
theorem take_ct (c : Cp) (v : Int) (b i n r : Bool) (F : Fit c) (ok : okB c = true) (v0 : 0 ≤ v) (v1 : v < 256) (w : World) (G : GlobO w) : Calls Tryz.prog 11 #[.agg (cpC c), .agg #[.int .u8 v, .bool b], .agg #[.bool i, .bool n, .bool r]] w fun e w' => e = .returned (.tuple #[.agg (cpC (takeM c v b i n r)), .int .i64 0]) ∧ Below w.heap.size w w' := by
  have F0 : Fiw (emptyW c v b) := Fit.empty F v0 v1
  have F1 : Fiw (turnW (emptyW c v b)) := Fit.turn F0
  have QT := Lib.hid (turn_ct (emptyW c v b) F0 ok)
  have QC := Lib.hid (fun wr (g : GlobO wr) => (show Calls Tryz.prog 9 #[.agg (cpC c)] wr fun e w' => e = .returned (.int .i64 0) ∧ Below wr.heap.size wr w' by
    have := kcheck_ct c wr g F.p0 F.p1 F.q0 F.q1 F.op0 F.op1
    rw [ok] at this
    exact this))
  have TN := fun z => turn_names (emptyW c v b) F0 z
  have hw : takeM c v b i n r = (hearW (endW (doM (turnS (emptyW c v b)).2 ((turnW (emptyW c v b)).uCtl ((turnW (emptyW c v b)).ctl || (askM (turnS (emptyW c v b)).1 (turnW (emptyW c v b))).sc)))) i n r).toCp := rfl
  rw [hw]
  clear hw
  have QA := Lib.hid (ask_ct (turnS (emptyW c v b)).1 (turnW (emptyW c v b)) F1 (TN false).1)
  generalize hk : (turnS (emptyW c v b)).1 = k at *
  generalize hd : (turnS (emptyW c v b)).2 = d at *
  generalize hs1 : turnW (emptyW c v b) = s1 at *
  generalize ha : askM k s1 = q at *
  have HZC := Lib.hid alloc_cpu
  have HZW := Lib.hid alloc_wk
  have HZS := Lib.hid alloc_step
  have GG := Lib.hid G
  have H := Mem.start w
  cases hsc : q.sc
  case' false =>
    obtain ⟨S2, hS⟩ : ∃ S2, S2 = s1 := ⟨_, rfl⟩
    rw [show s1.uCtl (s1.ctl || false) = S2 from by rw [hS, Bool.or_false]; rfl]
  case' true =>
    obtain ⟨S2, hS⟩ : ∃ S2, S2 = s1.uCtl true := ⟨_, rfl⟩
    rw [show s1.uCtl (s1.ctl || true) = S2 from by rw [hS, Bool.or_true]]
  all_goals
    have F2 : Fiw S2 := by rw [hS]; first | exact F1 | exact Fit.ctl F1 _
    have ND : doOk d S2 := by rw [hS]; first | exact (TN true).2 | exact (TN s1.ctl).2
    have QF := Lib.hid (field_sc q _ hsc)
    have QD := Lib.hid (do_ct d S2 F2 ND)
    have F3 := Fit.done F2 d
    have QE := Lib.hid (end_ct (doM d S2))
    have QH := Lib.hid (hear_ct (endW (doM d S2)) i n r (Fit.fend F3))
    clear F0 F1 F2 F3 ND TN hsc F ok v0 v1 G ha hk hd hs1
    subst hS
    have M1 : True := trivial
    have M2 : True := trivial
    have M3 : True := trivial
    have M4 : True := trivial
    have M5 : True := trivial
    have M6 : True := trivial
    go_enter Tryz.func11, Tryz.ntmps11
    go_wp2_with (first | (clear M1; refine wpList_mboxA rfl _ _ rfl H _ rfl ?_; clear H; intro Rc w1 _ H) | (clear M2; refine wpList_mboxA rfl _ _ rfl H _ rfl ?_; clear H; intro Rv w1 _ H) | (clear M3; refine wpList_mboxA rfl _ _ rfl H _ rfl ?_; clear H; intro Rl w1 _ H) | (clear M4; refine wpList_mnew rfl _ rfl H _ HZC.out ?_; clear H; intro Rr w1 _ H) | (refine gate_load _ _ rfl ?_; refine wpList_mloadA rfl 28 _ rfl _ rfl 3 H (cpC _) rfl (by decide +kernel) (by kernel_rfl) ?_) | (go_at_call 9; (with_reducible refine (QC.out _ (GG.out.mem H)).mono ?_); rintro e w2 ⟨rfl, hB⟩; replace H := H.next hB; clear hB) | (refine gate_load _ _ rfl ?_; refine wpList_mloadA rfl 23 _ rfl _ rfl 2 H #[.int .u8 _, .bool _] rfl (by decide +kernel) (by kernel_rfl) ?_) | (refine wpList_mbuildv rfl _ _ rfl _ (by first | (simp only [List.map_toArray, List.map_cons, List.map_nil, Act.eval]; done) | (simp only [List.map_toArray, List.map_cons, List.map_nil, Act.eval]; rfl) | rfl) _ (build_wk _ _ _) ?_) | (clear M5; refine wpList_mnew rfl _ rfl H _ HZW.out ?_; clear H; intro Rw w1 _ H) | (refine gate_store _ _ _ rfl ?_; refine wpList_mstoreA rfl 81 _ _ rfl rfl _ rfl 0 H (wkC _) _ rfl rfl (by kernel_rfl) (by kernel_rfl) (by kernel_rfl) ?_; clear H; intro w1 H; simp only [List.set_cons_zero, List.set_cons_succ] at H) | (go_at_call 36; obtain ⟨T0, hT⟩ := H.get (i := 0) rfl; (with_reducible refine Calls.mono (QT.out _ _ _ (GG.out.mem H) hT) ?_); rintro e w2 ⟨rfl, hm⟩; replace H := H.call (i := 0) rfl hm; clear hm hT; simp only [List.set_cons_zero, List.set_cons_succ] at H) | (clear M6; refine wpList_mnew rfl _ rfl H _ HZS.out ?_; clear H; intro Rn w1 _ H) | (refine gate_store _ _ _ rfl ?_; refine wpList_mstoreA rfl 85 _ _ rfl rfl _ rfl 0 H #[_, _] _ rfl rfl (by kernel_rfl) (by kernel_rfl) (by kernel_rfl) ?_; clear H; intro w1 H; simp only [List.set_cons_zero, List.set_cons_succ] at H) | (refine gate_load _ _ rfl ?_; refine wpList_mload1 rfl _ _ rfl _ _ rfl 0 H _ (.func _ _ _) rfl rfl (by decide +kernel) ?_) | (refine gate_load _ _ rfl ?_; refine wpList_mloadA rfl 81 _ rfl _ rfl 1 H (wkC _) rfl (by decide +kernel) (by kernel_rfl) ?_) | (refine wpList_callf rfl rfl rfl rfl (by simp only [List.map_toArray, List.map_cons, List.map_nil, Act.eval]; rfl) (ask_hb _) (QA.out _) ?_; rintro e w2 ⟨rfl, hB⟩; refine ⟨_, rfl, ?_⟩; replace H := H.next hB; clear hB) | (refine wpList_mfield rfl _ _ _ rfl (.agg _) _ rfl QF.out ?_) | (refine gate_store _ _ _ rfl ?_; refine wpList_mstore rfl _ _ _ rfl rfl _ _ rfl 1 H _ _ rfl (.bool _) rfl (by kernel_rfl) (of_decide_eq_true (by kernel_rfl)) (by kernel_rfl) (st_B rfl) ?_; clear H; intro w1 H; simp only [List.set_cons_zero, List.set_cons_succ] at H) | (obtain ⟨T0, hT⟩ := H.get (i := 1) rfl; refine wpList_callf rfl rfl rfl rfl (by simp only [List.map_toArray, List.map_cons, List.map_nil, Act.eval]; rfl) (do_hb _) (QD.out _ _ _ hT) ?_; rintro e w2 ⟨rfl, hm⟩; refine ⟨_, rfl, ?_⟩; replace H := H.call (i := 1) rfl hm; clear hm hT; simp only [List.set_cons_zero, List.set_cons_succ] at H) | (go_at_call 37; obtain ⟨T0, hT⟩ := H.get (i := 1) rfl; (with_reducible refine Calls.mono (QE.out _ _ _ hT) ?_); rintro e w2 ⟨rfl, hm⟩; replace H := H.call (i := 1) rfl hm; clear hm hT; simp only [List.set_cons_zero, List.set_cons_succ] at H) | (refine gate_load _ _ rfl ?_; refine wpList_mloadA rfl 36 _ rfl _ rfl 3 H #[.bool _, .bool _, .bool _] rfl (by decide +kernel) (by kernel_rfl) ?_) | (go_at_call 38; obtain ⟨T0, hT⟩ := H.get (i := 1) rfl; (with_reducible refine Calls.mono (QH.out _ _ _ hT) ?_); rintro e w2 ⟨rfl, hm⟩; replace H := H.call (i := 1) rfl hm; clear hm hT; simp only [List.set_cons_zero, List.set_cons_succ] at H) | (refine gate_load _ _ rfl ?_; refine wpList_mload rfl 28 _ rfl _ _ rfl 1 H _ (cpC _) rfl (by decide +kernel) (by kernel_rfl) (wk_cpu _) ?_) | (refine gate_store _ _ _ rfl ?_; refine wpList_mstoreA rfl 28 _ _ rfl rfl _ rfl 2 H (cpC _) _ rfl rfl (by kernel_rfl) (by kernel_rfl) (by kernel_rfl) ?_; clear H; intro w1 H; simp only [List.set_cons_zero, List.set_cons_succ] at H) | fail)
    refine ret_mem2 rfl _ rfl 2 H _ rfl (by kernel_rfl) (by kernel_rfl) rfl _ rfl ?_
    exact ⟨rfl, H.toBelow⟩
end Go.Proofs.YtopmlmpadkdhjaaGreatDoor
namespace Go.Proofs.YtopmlmpadkdhjaaGreatDoor
open Go.RowKit
set_option linter.unusedSimpArgs false
set_option linter.unusedVariables false
set_option maxRecDepth 20000

attribute [local irreducible] wpList
set_option maxHeartbeats 4000000 in
theorem kask_ct (c : Cp) (F : Fit c) (ok : okB c = true) (w : World) (G : GlobO w) : Calls Tryz.prog 14 #[.agg (cpC c)] w fun e w' => e = .returned (.agg (bsC (askedM c))) ∧ Below w.heap.size w w' := by
  have F0 : Fiw (emptyW c 0 false) := Fit.empty F (by decide) (by decide)
  have F1 : Fiw (turnW (emptyW c 0 false)) := Fit.turn F0
  have QT := Lib.hid (turn_ct (emptyW c 0 false) F0 ok)
  have QC := Lib.hid (fun wr (g : GlobO wr) => (show Calls Tryz.prog 9 #[.agg (cpC c)] wr fun e w' => e = .returned (.int .i64 0) ∧ Below wr.heap.size wr w' by
    have := kcheck_ct c wr g F.p0 F.p1 F.q0 F.q1 F.op0 F.op1
    rw [ok] at this
    exact this))
  have hw : askedM c = askM (turnS (emptyW c 0 false)).1 (turnW (emptyW c 0 false)) := rfl
  rw [hw]
  clear hw
  have QA := Lib.hid (ask_ct (turnS (emptyW c 0 false)).1 (turnW (emptyW c 0 false)) F1 (turn_names (emptyW c 0 false) F0 false).1)
  generalize (turnS (emptyW c 0 false)).1 = k at *
  generalize (turnS (emptyW c 0 false)).2 = d at *
  generalize turnW (emptyW c 0 false) = s1 at *
  have HZB := Lib.hid alloc_bus
  have HZW := Lib.hid alloc_wk
  have HZS := Lib.hid alloc_step
  have GG := Lib.hid G
  have H := Mem.start w
  clear F0 F1 F ok G
  have M1 : True := trivial
  have M2 : True := trivial
  have M3 : True := trivial
  have M4 : True := trivial
  have M5 : True := trivial
  go_enter Tryz.func14, Tryz.ntmps14
  go_wp2_with (first | (clear M1; refine wpList_mboxA rfl _ _ rfl H _ rfl ?_; clear H; intro Rc w1 _ H) | (clear M2; refine wpList_mnew rfl _ rfl H _ HZB.out ?_; clear H; intro Rr w1 _ H) | (refine gate_load _ _ rfl ?_; refine wpList_mloadA rfl 28 _ rfl _ rfl 1 H (cpC _) rfl (by decide +kernel) (by kernel_rfl) ?_) | (go_at_call 9; (with_reducible refine (QC.out _ (GG.out.mem H)).mono ?_); rintro e w2 ⟨rfl, hB⟩; replace H := H.next hB; clear hB) | (refine wpList_mbuildv rfl _ _ rfl _ (by simp only [List.map_toArray, List.map_cons, List.map_nil, Act.eval]; rfl) _ (build_wk1 _) ?_) | (clear M3; refine wpList_mnew rfl _ rfl H _ HZW.out ?_; clear H; intro Rw w1 _ H) | (refine gate_store _ _ _ rfl ?_; refine wpList_mstoreA rfl 81 _ _ rfl rfl _ rfl 0 H (wkC _) _ rfl rfl (by kernel_rfl) (by kernel_rfl) (by kernel_rfl) ?_; clear H; intro w1 H; simp only [List.set_cons_zero, List.set_cons_succ] at H) | (go_at_call 36; obtain ⟨T0, hT⟩ := H.get (i := 0) rfl; (with_reducible refine Calls.mono (QT.out _ _ _ (GG.out.mem H) hT) ?_); rintro e w2 ⟨rfl, hm⟩; replace H := H.call (i := 0) rfl hm; clear hm hT; simp only [List.set_cons_zero, List.set_cons_succ] at H) | (clear M4; refine wpList_mnew rfl _ rfl H _ HZS.out ?_; clear H; intro Rn w1 _ H) | (refine gate_store _ _ _ rfl ?_; refine wpList_mstoreA rfl 85 _ _ rfl rfl _ rfl 0 H #[_, _] _ rfl rfl (by kernel_rfl) (by kernel_rfl) (by kernel_rfl) ?_; clear H; intro w1 H; simp only [List.set_cons_zero, List.set_cons_succ] at H) | (refine gate_load _ _ rfl ?_; refine wpList_mload1 rfl _ _ rfl _ _ rfl 0 H _ (.func _ _ _) rfl rfl (by decide +kernel) ?_) | (refine gate_load _ _ rfl ?_; refine wpList_mloadA rfl 81 _ rfl _ rfl 1 H (wkC _) rfl (by decide +kernel) (by kernel_rfl) ?_) | (refine wpList_callf rfl rfl rfl rfl (by simp only [List.map_toArray, List.map_cons, List.map_nil, Act.eval]; rfl) (ask_hb _) (QA.out _) ?_; rintro e w2 ⟨rfl, hB⟩; refine ⟨_, rfl, ?_⟩; replace H := H.next hB; clear hB) | (refine gate_store _ _ _ rfl ?_; refine wpList_mstoreA rfl 43 _ _ rfl rfl _ rfl 2 H (bsC _) _ rfl rfl (by kernel_rfl) (by kernel_rfl) (by kernel_rfl) ?_; clear H; intro w1 H; simp only [List.set_cons_zero, List.set_cons_succ] at H) | fail)
  refine ret_mem1 rfl _ rfl 2 H _ rfl (by kernel_rfl) (by kernel_rfl) rfl ?_
  exact ⟨rfl, H.toBelow⟩
set_option maxHeartbeats 4000000 in
theorem kwait_ct (c : Cp) (i n r : Bool) (F : Fit c) (ok : okB c = true) (w : World) (G : GlobO w) : Calls Tryz.prog 12 #[.agg (cpC c), .agg #[.bool i, .bool n, .bool r]] w fun e w' => e = .returned (.tuple #[.agg (cpC (waitM c i n r)), .int .i64 0]) ∧ Below w.heap.size w w' := by
  have F0 : Fiw (emptyW c 0 false) := Fit.empty F (by decide) (by decide)
  have QC := Lib.hid (fun wr (g : GlobO wr) => (show Calls Tryz.prog 9 #[.agg (cpC c)] wr fun e w' => e = .returned (.int .i64 0) ∧ Below wr.heap.size wr w' by
    have := kcheck_ct c wr g F.p0 F.p1 F.q0 F.q1 F.op0 F.op1
    rw [ok] at this
    exact this))
  have QH := Lib.hid (hear_ct (emptyW c 0 false) i n r F0)
  have HZC := Lib.hid alloc_cpu
  have HZW := Lib.hid alloc_wk
  have GG := Lib.hid G
  have H := Mem.start w
  clear F0 F ok G
  have M1 : True := trivial
  have M2 : True := trivial
  have M3 : True := trivial
  have M4 : True := trivial
  have M5 : True := trivial
  go_enter Tryz.func12, Tryz.ntmps12
  go_wp2_with (first | (clear M1; refine wpList_mboxA rfl _ _ rfl H _ rfl ?_; clear H; intro Rc w1 _ H) | (clear M2; refine wpList_mboxA rfl _ _ rfl H _ rfl ?_; clear H; intro Rl w1 _ H) | (clear M3; refine wpList_mnew rfl _ rfl H _ HZC.out ?_; clear H; intro Rr w1 _ H) | (refine gate_load _ _ rfl ?_; refine wpList_mloadA rfl 28 _ rfl _ rfl 2 H (cpC _) rfl (by decide +kernel) (by kernel_rfl) ?_) | (go_at_call 9; (with_reducible refine (QC.out _ (GG.out.mem H)).mono ?_); rintro e w2 ⟨rfl, hB⟩; replace H := H.next hB; clear hB) | (refine wpList_mbuildv rfl _ _ rfl _ (by simp only [List.map_toArray, List.map_cons, List.map_nil, Act.eval]; rfl) _ (build_wk1 _) ?_) | (clear M4; refine wpList_mnew rfl _ rfl H _ HZW.out ?_; clear H; intro Rw w1 _ H) | (refine gate_store _ _ _ rfl ?_; refine wpList_mstoreA rfl 81 _ _ rfl rfl _ rfl 0 H (wkC _) _ rfl rfl (by kernel_rfl) (by kernel_rfl) (by kernel_rfl) ?_; clear H; intro w1 H; simp only [List.set_cons_zero, List.set_cons_succ] at H) | (refine gate_load _ _ rfl ?_; refine wpList_mloadA rfl 36 _ rfl _ rfl 2 H #[.bool _, .bool _, .bool _] rfl (by decide +kernel) (by kernel_rfl) ?_) | (go_at_call 38; obtain ⟨T0, hT⟩ := H.get (i := 0) rfl; (with_reducible refine Calls.mono (QH.out _ _ _ hT) ?_); rintro e w2 ⟨rfl, hm⟩; replace H := H.call (i := 0) rfl hm; clear hm hT; simp only [List.set_cons_zero, List.set_cons_succ] at H) | (refine gate_load _ _ rfl ?_; refine wpList_mload rfl 28 _ rfl _ _ rfl 0 H _ (cpC _) rfl (by decide +kernel) (by kernel_rfl) (wk_cpu _) ?_) | (refine gate_store _ _ _ rfl ?_; refine wpList_mstoreA rfl 28 _ _ rfl rfl _ rfl 1 H (cpC _) _ rfl rfl (by kernel_rfl) (by kernel_rfl) (by kernel_rfl) ?_; clear H; intro w1 H; simp only [List.set_cons_zero, List.set_cons_succ] at H) | fail)
  refine ret_mem2 rfl _ rfl 1 H _ rfl (by kernel_rfl) (by kernel_rfl) rfl _ rfl ?_
  exact ⟨rfl, H.toBelow⟩
end Go.Proofs.YtopmlmpadkdhjaaGreatDoor
namespace Go.Proofs.YtopmlmpadkdhjaaGreatDoor
open Go.RowKit
set_option linter.unusedSimpArgs false
set_option linter.unusedVariables false
set_option maxRecDepth 20000

def Cp.setP (c : Cp) (off : Nat) (v : Int) (b : Bool) : Option Cp := match off with
  | 0 => some { c with av := v, ab := b }
  | 2 => some { c with xv := v, xb := b }
  | 4 => some { c with yv := v, yb := b }
  | 6 => some { c with sv := v, sb := b }
  | 16 => some { c with dv := v, db := b }
  | _ => none
def Cp.setB (c : Cp) (off : Nat) (b : Bool) : Option Cp := match off with
  | 1 => some { c with ab := b }
  | 3 => some { c with xb := b }
  | 5 => some { c with yb := b }
  | 7 => some { c with sb := b }
  | 11 => some { c with pcs := b }
  | 15 => some { c with ads := b }
  | 17 => some { c with db := b }
  | 18 => some { c with cr := b }
  | 20 => some { c with nmi := b }
  | 21 => some { c with got := b }
  | 23 => some { c with ctl := b }
  | 24 => some { c with jam := b }
  | _ => none
def Cp.setI (c : Cp) (off : Nat) (k : IntKind) (n : Int) : Option Cp := match off, k with
  | 0, .u8 => some { c with av := n }
  | 2, .u8 => some { c with xv := n }
  | 4, .u8 => some { c with yv := n }
  | 6, .u8 => some { c with sv := n }
  | 8, .u8 => some { c with p := n }
  | 9, .u8 => some { c with ps := n }
  | 10, .u16 => some { c with pc := n }
  | 12, .u8 => some { c with op := n }
  | 13, .i64 => some { c with t := n }
  | 14, .u16 => some { c with ad := n }
  | 16, .u8 => some { c with dv := n }
  | 19, .i64 => some { c with intr := n }
  | 22, .i64 => some { c with pend := n }
  | _, _ => none
theorem ct_P {c C : Cp} {off : Nat} {v : Int} {b : Bool} (h : c.setP off v b = some C) : (splice (cpC c).toList off (Value.cells (.agg #[.int .u8 v, .bool b])).toList).toArray = cpC C := by
  unfold Cp.setP at h
  split at h <;> first | (cases h; done) | (injection h with h; subst h; rfl)
theorem ct_B {c C : Cp} {off : Nat} {b : Bool} (h : c.setB off b = some C) : (splice (cpC c).toList off (Value.cells (.bool b)).toList).toArray = cpC C := by
  unfold Cp.setB at h
  split at h <;> first | (cases h; done) | (injection h with h; subst h; rfl)
theorem ct_I {c C : Cp} {off : Nat} {k : IntKind} {n : Int} (h : c.setI off k n = some C) : (splice (cpC c).toList off (Value.cells (.int k n)).toList).toArray = cpC C := by
  unfold Cp.setI at h
  split at h <;> first | (cases h; done) | (injection h with h; subst h; rfl)
theorem ct_F {c C : Cp} {off : Nat} {v q : Int} (ho : off = 8) (h : some { c with p := v, ps := q } = some C) : (splice (cpC c).toList off (Value.cells (.agg #[.int .u8 v, .int .u8 q])).toList).toArray = cpC C := by
  injection h with h
  subst h
  subst ho
  rfl
def ptrs (R : Nat) : Array Value := #[.pointer (some ⟨R, 0, none⟩), .pointer (some ⟨R, 2, none⟩), .pointer (some ⟨R, 4, none⟩), .pointer (some ⟨R, 6, none⟩), .pointer (some ⟨R, 16, none⟩)]
theorem alloc_p5 (w : World) : (Instr.alloc 90 true (.tuple #[])).run Tryz.prog w = .ok (.pointer (some ⟨w.heap.size, 0, none⟩)) (w.alloc (.cells #[.pointer none, .pointer none, .pointer none, .pointer none, .pointer none] 90)) := by kernel_rfl
theorem wpList_mindex {P : Program} {ops : Array Oper} {rest : List Oper} {o : Oper} {a : Act} {w : World} {Q : Exit → Act → World → Prop} (hgd : Region.wanted o (yielded ops a.tmps) = true) (T : TypeId) (x i : Operand) (ho : o.op = .index T x i) (v u r : Value) (hx : a.eval x = v) (hi : a.eval i = u) (hr : ∀ w : World, (Instr.index T v u).run P w = .ok r w)
    (h : wpList P ops Q rest (a.put o.dst r) w) : wpList P ops Q (o :: rest) a w :=
  wpList_want' hgd fun _ hK => by
    unfold Oper.wp execOp
    simp only [ho, hx, hi, Sem.run_bind, Sem.run_pure, hr, Result.andThen_ok, Oper.upon]
    exact hK _ _ h
theorem index_p0 (R : Nat) (w : World) : (Instr.index 90 (.agg (ptrs R)) (.int .i64 0)).run Tryz.prog w = .ok (.pointer (some ⟨R, 0, none⟩)) w := by kernel_rfl
theorem index_p1 (R : Nat) (w : World) : (Instr.index 90 (.agg (ptrs R)) (.int .i64 1)).run Tryz.prog w = .ok (.pointer (some ⟨R, 2, none⟩)) w := by kernel_rfl
theorem index_p2 (R : Nat) (w : World) : (Instr.index 90 (.agg (ptrs R)) (.int .i64 2)).run Tryz.prog w = .ok (.pointer (some ⟨R, 4, none⟩)) w := by kernel_rfl
theorem index_p3 (R : Nat) (w : World) : (Instr.index 90 (.agg (ptrs R)) (.int .i64 3)).run Tryz.prog w = .ok (.pointer (some ⟨R, 6, none⟩)) w := by kernel_rfl
theorem index_p4 (R : Nat) (w : World) : (Instr.index 90 (.agg (ptrs R)) (.int .i64 4)).run Tryz.prog w = .ok (.pointer (some ⟨R, 16, none⟩)) w := by kernel_rfl
theorem build_new (w : World) : (Instr.build 28 #[(4, .agg #[.int .u8 4, .int .u8 0]), (13, .int .i64 3)]).run Tryz.prog w = .ok (.agg (cpC newM)) w := by kernel_rfl
theorem build_fl0 (v : Int) (w : World) : (Instr.build 25 #[(0, .int .u8 v)]).run Tryz.prog w = .ok (.agg #[.int .u8 v, .int .u8 0]) w := by kernel_rfl
set_option maxHeartbeats 2000000 in
theorem kbytesof_ct (R : Nat) (w : World) : Calls Tryz.prog 39 #[.pointer (some ⟨R, 0, none⟩)] w fun e w' => e = .returned (.agg (ptrs R)) ∧ Below w.heap.size w w' := by
  have HZP := Lib.hid alloc_p5
  have H := Mem.start w
  have M1 : True := trivial
  go_enter Tryz.func39, Tryz.ntmps39
  go_wp2_with (first | (clear M1; refine wpList_mnew rfl _ rfl H _ HZP.out ?_; clear H; intro Rr w1 _ H) | fail)
  (try simp only [Act.put, List.setIfInBounds_toArray, List.set_cons_succ, List.set_cons_zero])
  (refine wp_region_tails_below 16 (by kernel_rfl) (by kernel_rfl) ?_); (simp only [List.take_succ_cons, List.take_zero, List.drop_succ_cons, List.drop_zero]); (repeat (first | go_big_quiet_step (fail))); (refine wpQuiet_nil ?_); intro _ hw'; obtain ⟨⟨dq, osq⟩, hw''⟩ := hw'; (subst hw''); replace H := H.next (below_regrown _ dq osq)
  go_wp2_with (first | (refine gate_store _ _ _ rfl ?_; refine wpList_mstoreA rfl 90 _ _ rfl rfl _ rfl 0 H _ _ rfl rfl (by kernel_rfl) (by kernel_rfl) (by kernel_rfl) ?_; clear H; intro w1 H; simp only [List.set_cons_zero, List.set_cons_succ] at H) | fail)
  refine ret_mem1 rfl _ rfl 0 H _ rfl (by kernel_rfl) (by kernel_rfl) rfl ?_
  exact ⟨rfl, H.toBelow⟩
set_option maxHeartbeats 2000000 in
theorem knew_ct (w : World) : Calls Tryz.prog 35 #[] w fun e w' => e = .returned (.agg (cpC newM)) ∧ Below w.heap.size w w' := by
  have HZC := Lib.hid alloc_cpu
  have H := Mem.start w
  have M1 : True := trivial
  go_enter Tryz.func35, Tryz.ntmps35
  go_wp2_with (first | (clear M1; refine wpList_mnew rfl _ rfl H _ HZC.out ?_; clear H; intro Rr w1 _ H) | (refine wpList_mbuildv rfl _ _ rfl _ (by simp only [List.map_toArray, List.map_cons, List.map_nil, Act.eval]; rfl) _ (build_fl0 _) ?_) | (refine wpList_mbuildv rfl _ _ rfl _ (by simp only [List.map_toArray, List.map_cons, List.map_nil, Act.eval]; rfl) _ build_new ?_) | (refine gate_store _ _ _ rfl ?_; refine wpList_mstoreA rfl 28 _ _ rfl rfl _ rfl 0 H (cpC _) _ rfl rfl (by kernel_rfl) (by kernel_rfl) (by kernel_rfl) ?_; clear H; intro w1 H; simp only [List.set_cons_zero, List.set_cons_succ] at H) | fail)
  refine ret_mem1 rfl _ rfl 0 H _ rfl (by kernel_rfl) (by kernel_rfl) rfl ?_
  exact ⟨rfl, H.toBelow⟩
attribute [local irreducible] wpList
set_option maxHeartbeats 2000000 in
theorem kerase_ct (c : Cp) (w : World) : Calls Tryz.prog 13 #[.agg (cpC c)] w fun e w' => e = .returned (.agg (cpC (eraseM c))) ∧ Below w.heap.size w w' := by
  have HZC := Lib.hid alloc_cpu
  have QB := Lib.hid (fun R wr => kbytesof_ct R wr)
  have H := Mem.start w
  have M1 : True := trivial
  have M2 : True := trivial
  go_enter Tryz.func13, Tryz.ntmps13
  go_wp2_with (first | (clear M1; refine wpList_mboxA rfl _ _ rfl H _ rfl ?_; clear H; intro Rc w1 _ H) | (clear M2; refine wpList_mnew rfl _ rfl H _ HZC.out ?_; clear H; intro Rr w1 _ H) | (go_at_call 39; (with_reducible refine (QB.out _ _).mono ?_); rintro e w2 ⟨rfl, hB⟩; replace H := H.next hB; clear hB) | fail)
  refine wp_loop_rounds (5 + 1) ?_
  rw [rounds_succ]
  go_wp2_with (first | (refine wpList_mindex rfl _ _ _ rfl (.agg (ptrs _)) (.int .i64 0) _ rfl rfl (index_p0 _) ?_) | (refine gate_load _ _ rfl ?_; refine wpList_mload rfl 23 _ rfl _ _ rfl 1 H _ #[.int .u8 _, .bool _] rfl (by decide +kernel) (by kernel_rfl) (part2 rfl rfl) ?_) | (go_at_call 40; (with_reducible refine (erase_ct _ _ _).mono ?_); rintro e w2 ⟨rfl, hB⟩; replace H := H.next hB; clear hB) | (refine gate_store _ _ _ rfl ?_; refine wpList_mstore rfl _ _ _ rfl rfl _ _ rfl 1 H _ _ rfl (.agg #[.int .u8 _, .bool _]) rfl (by kernel_rfl) (of_decide_eq_true (by kernel_rfl)) (by kernel_rfl) (ct_P rfl) ?_; clear H; intro w1 H; simp only [List.set_cons_zero, List.set_cons_succ] at H) | fail)
  rw [rounds_succ]
  go_wp2_with (first | (refine wpList_mindex rfl _ _ _ rfl (.agg (ptrs _)) (.int .i64 1) _ rfl rfl (index_p1 _) ?_) | (refine gate_load _ _ rfl ?_; refine wpList_mload rfl 23 _ rfl _ _ rfl 1 H _ #[.int .u8 _, .bool _] rfl (by decide +kernel) (by kernel_rfl) (part2 rfl rfl) ?_) | (go_at_call 40; (with_reducible refine (erase_ct _ _ _).mono ?_); rintro e w2 ⟨rfl, hB⟩; replace H := H.next hB; clear hB) | (refine gate_store _ _ _ rfl ?_; refine wpList_mstore rfl _ _ _ rfl rfl _ _ rfl 1 H _ _ rfl (.agg #[.int .u8 _, .bool _]) rfl (by kernel_rfl) (of_decide_eq_true (by kernel_rfl)) (by kernel_rfl) (ct_P rfl) ?_; clear H; intro w1 H; simp only [List.set_cons_zero, List.set_cons_succ] at H) | fail)
  rw [rounds_succ]
  go_wp2_with (first | (refine wpList_mindex rfl _ _ _ rfl (.agg (ptrs _)) (.int .i64 2) _ rfl rfl (index_p2 _) ?_) | (refine gate_load _ _ rfl ?_; refine wpList_mload rfl 23 _ rfl _ _ rfl 1 H _ #[.int .u8 _, .bool _] rfl (by decide +kernel) (by kernel_rfl) (part2 rfl rfl) ?_) | (go_at_call 40; (with_reducible refine (erase_ct _ _ _).mono ?_); rintro e w2 ⟨rfl, hB⟩; replace H := H.next hB; clear hB) | (refine gate_store _ _ _ rfl ?_; refine wpList_mstore rfl _ _ _ rfl rfl _ _ rfl 1 H _ _ rfl (.agg #[.int .u8 _, .bool _]) rfl (by kernel_rfl) (of_decide_eq_true (by kernel_rfl)) (by kernel_rfl) (ct_P rfl) ?_; clear H; intro w1 H; simp only [List.set_cons_zero, List.set_cons_succ] at H) | fail)
  rw [rounds_succ]
  go_wp2_with (first | (refine wpList_mindex rfl _ _ _ rfl (.agg (ptrs _)) (.int .i64 3) _ rfl rfl (index_p3 _) ?_) | (refine gate_load _ _ rfl ?_; refine wpList_mload rfl 23 _ rfl _ _ rfl 1 H _ #[.int .u8 _, .bool _] rfl (by decide +kernel) (by kernel_rfl) (part2 rfl rfl) ?_) | (go_at_call 40; (with_reducible refine (erase_ct _ _ _).mono ?_); rintro e w2 ⟨rfl, hB⟩; replace H := H.next hB; clear hB) | (refine gate_store _ _ _ rfl ?_; refine wpList_mstore rfl _ _ _ rfl rfl _ _ rfl 1 H _ _ rfl (.agg #[.int .u8 _, .bool _]) rfl (by kernel_rfl) (of_decide_eq_true (by kernel_rfl)) (by kernel_rfl) (ct_P rfl) ?_; clear H; intro w1 H; simp only [List.set_cons_zero, List.set_cons_succ] at H) | fail)
  rw [rounds_succ]
  go_wp2_with (first | (refine wpList_mindex rfl _ _ _ rfl (.agg (ptrs _)) (.int .i64 4) _ rfl rfl (index_p4 _) ?_) | (refine gate_load _ _ rfl ?_; refine wpList_mload rfl 23 _ rfl _ _ rfl 1 H _ #[.int .u8 _, .bool _] rfl (by decide +kernel) (by kernel_rfl) (part2 rfl rfl) ?_) | (go_at_call 40; (with_reducible refine (erase_ct _ _ _).mono ?_); rintro e w2 ⟨rfl, hB⟩; replace H := H.next hB; clear hB) | (refine gate_store _ _ _ rfl ?_; refine wpList_mstore rfl _ _ _ rfl rfl _ _ rfl 1 H _ _ rfl (.agg #[.int .u8 _, .bool _]) rfl (by kernel_rfl) (of_decide_eq_true (by kernel_rfl)) (by kernel_rfl) (ct_P rfl) ?_; clear H; intro w1 H; simp only [List.set_cons_zero, List.set_cons_succ] at H) | fail)
  rw [rounds_succ]
  go_wp2_with (first | (refine gate_store _ _ _ rfl ?_; refine wpList_mstore rfl _ _ _ rfl rfl _ _ rfl 1 H _ _ rfl (.int _ _) rfl (by kernel_rfl) (of_decide_eq_true (by kernel_rfl)) (by kernel_rfl) (ct_I rfl) ?_; clear H; intro w1 H; simp only [List.set_cons_zero, List.set_cons_succ] at H) | (refine gate_store _ _ _ rfl ?_; refine wpList_mstore rfl _ _ _ rfl rfl _ _ rfl 1 H _ _ rfl (.bool _) rfl (by kernel_rfl) (of_decide_eq_true (by kernel_rfl)) (by kernel_rfl) (ct_B rfl) ?_; clear H; intro w1 H; simp only [List.set_cons_zero, List.set_cons_succ] at H) | (refine gate_load _ _ rfl ?_; refine wpList_mloadA rfl 28 _ rfl _ rfl 1 H (cpC _) rfl (by decide +kernel) (by kernel_rfl) ?_) | (refine gate_store _ _ _ rfl ?_; refine wpList_mstoreA rfl 28 _ _ rfl rfl _ rfl 0 H (cpC _) _ rfl rfl (by kernel_rfl) (by kernel_rfl) (by kernel_rfl) ?_; clear H; intro w1 H; simp only [List.set_cons_zero, List.set_cons_succ] at H) | fail)
  refine ret_mem1 rfl _ rfl 0 H _ rfl (by kernel_rfl) (by kernel_rfl) rfl ?_
  exact ⟨rfl, H.toBelow⟩
end Go.Proofs.YtopmlmpadkdhjaaGreatDoor
namespace Go.Proofs.YtopmlmpadkdhjaaGreatDoor
set_option linter.unusedSimpArgs false
set_option linter.unusedVariables false

/-- No interrupt is asked for, and none is answered. -/
structure Calm (c : Cp) : Prop where
  i : c.intr = 0
  g : c.got = false
  p : c.pend = 0
def tkM (c : Cp) (v : Int) : Cp := takeM c v false false false false
/-- What a cycle without lines leaves of the work. -/
structure Like (c : Cp) (d : Wk) : Prop where
  t : c.t = d.nx
  op : c.op = d.op
  jam : c.jam = d.jam
  pc : c.pc = d.pc
  ad : c.ad = d.ad
  dv : c.dv = d.dv
  cr : c.cr = d.cr
  xv : c.xv = d.xv
  yv : c.yv = d.yv
  p : c.p = d.p
theorem work_kp (c : Cp) (v : Int) (b : Bool) : (workM c v b).intr = c.intr ∧ (workM c v b).got = c.got ∧ (workM c v b).pend = c.pend ∧ (workM c v b).t = c.t := by
  have K := kp_do (turnS (emptyW c v b)).2 { turnW (emptyW c v b) with ctl := (turnW (emptyW c v b)).ctl || (askM (turnS (emptyW c v b)).1 (turnW (emptyW c v b))).sc }
  have e : (turnW (emptyW c v b)).toCp = c := turnW_cp (emptyW c v b)
  exact ⟨K.intr.trans (show (turnW (emptyW c v b)).intr = c.intr from congrArg Cp.intr e), K.got.trans (show (turnW (emptyW c v b)).got = c.got from congrArg Cp.got e), K.pend.trans (show (turnW (emptyW c v b)).pend = c.pend from congrArg Cp.pend e), K.t.trans (show (turnW (emptyW c v b)).t = c.t from congrArg Cp.t e)⟩
theorem tk_like (c : Cp) (v : Int) (h : Calm c) : Calm (tkM c v) ∧ Like (tkM c v) (workM c v false) := by
  obtain ⟨hi, hg, hp, ht⟩ := work_kp c v false
  unfold tkM takeM
  generalize workM c v false = d at *
  rw [h.i] at hi
  rw [h.g] at hg
  rw [h.p] at hp
  unfold endW hearW gotB
  by_cases h1 : d.nx = 0
  · by_cases h2 : d.md = 17
    · refine ⟨⟨?_, ?_, ?_⟩, ⟨?_, ?_, ?_, ?_, ?_, ?_, ?_, ?_, ?_, ?_⟩⟩ <;> simp [h1, h2, hi, hg, hp]
    · refine ⟨⟨?_, ?_, ?_⟩, ⟨?_, ?_, ?_, ?_, ?_, ?_, ?_, ?_, ?_, ?_⟩⟩ <;> simp [h1, h2, hi, hg, hp]
  · refine ⟨⟨?_, ?_, ?_⟩, ⟨?_, ?_, ?_, ?_, ?_, ?_, ?_, ?_, ?_, ?_⟩⟩ <;> simp [h1, hi, hg, hp]
theorem work_0 (c : Cp) (v : Int) (ht : c.t = 0) (hi : c.intr = 0) : ∃ x, workM c v false = { begunW { emptyW c v false with nx := 1, ctl := x } with op := v, pc := (c.pc + 1) % 65536 } := by
  unfold workM turnS turnW
  rw [if_pos (show (emptyW c v false).t = 0 from ht), if_pos (show (emptyW c v false).t = 0 from ht)]
  refine ⟨(c.ctl || c.pcs) || false, ?_⟩
  show beginW _ = _
  unfold beginW
  rw [if_pos (by exact hi)]
  rfl
theorem work_n (c : Cp) (v : Int) (ht : c.t ≠ 0) : ∃ x, workM c v false = doM ((stepsL (modeV c.op) (useV c.op)).getD (c.t - 1).toNat (.pc, .rest)).2 { opW (emptyW c v false) c.op with nx := if c.t = ((stepsL (modeV c.op) (useV c.op)).length : Int) then 0 else c.t + 1, ctl := x } := by
  unfold workM turnS turnW
  rw [if_neg (show ¬ (emptyW c v false).t = 0 from ht), if_neg (show ¬ (emptyW c v false).t = 0 from ht)]
  exact ⟨_, rfl⟩
/-- Cycles that neither end an instruction by themselves, nor begin one. -/
def plainK (k : DoI) (us : Int) : Bool := decide (k ≠ .begin) && decide (k ≠ .jam) && (!k.ends || (decide (k = .cross) && us != 1))
theorem nx_plain (k : DoI) (s : Wk) (h : plainK k s.us = true) : (doM k s).nx = s.nx := by
  unfold plainK at h
  simp only [Bool.and_eq_true, Bool.or_eq_true, Bool.not_eq_true', decide_eq_true_eq, bne_iff_ne] at h
  rcases h.2 with he | ⟨rfl, hu⟩
  · exact nx_do k s he
  · show (crossW s).nx = s.nx
    unfold crossW
    split
    · rfl
    · first | rfl | rw [if_neg hu]
/-- n cycles: in the first one op is read, in the others v. -/
def itM (c : Cp) (op v : Int) : Nat → Cp
  | 0 => c
  | 1 => tkM c op
  | n + 2 => tkM (itM c op v (n + 1)) v
theorem itM_succ (c : Cp) (op v : Int) (n : Nat) (h : n ≠ 0) : itM c op v (n + 1) = tkM (itM c op v n) v := by
  cases n with
  | zero => exact absurd rfl h
  | succ n => rfl
structure At (c0 c : Cp) (op : Int) (t : Int) : Prop where
  m : Calm c
  t : c.t = t
  op : c.op = op
  jam : c.jam = c0.jam
theorem at_1 (c : Cp) (op v : Int) (h : Calm c) (ht : c.t = 0) : At c (itM c op v 1) op 1 ∧ (itM c op v 1).pc = (c.pc + 1) % 65536 ∧ (itM c op v 1).xv = c.xv ∧ (itM c op v 1).yv = c.yv ∧ (itM c op v 1).p = c.p := by
  obtain ⟨hc, hl⟩ := tk_like c op h
  obtain ⟨x, hx⟩ := work_0 c op ht h.i
  rw [hx] at hl
  exact ⟨⟨hc, hl.t, hl.op, hl.jam⟩, hl.pc, hl.xv, hl.yv, hl.p⟩
def stepK (op : Int) (j : Nat) : DoI := ((stepsL (modeV op) (useV op)).getD (j - 1) (.pc, .rest)).2
def lenV (op : Int) : Nat := (stepsL (modeV op) (useV op)).length
def nxV (op : Int) (j : Nat) : Int := if j = lenV op then 0 else (j : Int) + 1
/-- The next cycle, of an instruction that is under way. -/
theorem at_n {c0 c : Cp} {op v : Int} {j : Nat} (h : At c0 c op (j : Int)) (hj : j ≠ 0) : ∃ s : Wk, s.toCp.pc = c.pc ∧ s.dv = c.dv ∧ s.cr = c.cr ∧ s.xv = c.xv ∧ s.yv = c.yv ∧ s.p = c.p ∧ s.jam = c.jam ∧ s.t = c.t ∧ s.ad = c.ad ∧ s.v = v ∧ s.nm = nameV op ∧ s.us = useV op ∧ s.op = op ∧ s.nx = nxV op j ∧ Calm (tkM c v) ∧ Like (tkM c v) (doM (stepK op j) s) := by
  obtain ⟨hc, hl⟩ := tk_like c v h.m
  have hz : c.t ≠ 0 := by rw [h.t]; omega
  obtain ⟨x, hx⟩ := work_n c v hz
  rw [hx, h.op, h.t, show ((j : Int) - 1).toNat = j - 1 by omega] at hl
  refine ⟨_, rfl, rfl, rfl, rfl, rfl, rfl, rfl, rfl, rfl, rfl, ?_, ?_, ?_, ?_, hc, hl⟩
  · rfl
  · rfl
  · exact h.op
  · unfold nxV lenV
    show (if (j : Int) = _ then (0 : Int) else (j : Int) + 1) = _
    by_cases e : j = (stepsL (modeV op) (useV op)).length
    · rw [if_pos e, if_pos (by rw [← e])]
    · rw [if_neg e, if_neg (by omega)]
theorem at_plain {c0 c : Cp} {op v : Int} {j : Nat} (h : At c0 c op (j : Int)) (hj : j ≠ 0) (hk : plainK (stepK op j) (useV op) = true) : At c0 (tkM c v) op (nxV op j) := by
  obtain ⟨s, _, _, _, _, _, _, ejam, _, _, _, _, eus, eop, enx, hc, hl⟩ := at_n (v := v) h hj
  have h1 : stepK op j ≠ .begin := by
    intro e; rw [e] at hk; simp [plainK] at hk
  have h2 : stepK op j ≠ .jam := by
    intro e; rw [e] at hk; simp [plainK] at hk
  exact ⟨hc, hl.t.trans ((nx_plain _ s (by rw [eus]; exact hk)).trans enx), hl.op.trans ((op_do _ s h1).trans eop), hl.jam.trans ((jam_do _ s h2).trans (ejam.trans h.jam))⟩
/-- N is how many cycles there are. -/
structure Ends (c : Cp) (op v : Int) (N : Nat) : Prop where
  t : (itM c op v N).t = 0
  no : ∀ j, 0 < j → j < N → (itM c op v j).t ≠ 0
  jam : (itM c op v N).jam = c.jam
theorem at_from {c : Cp} {op v : Int} (k : Nat) (hk : 0 < k) (h : At c (itM c op v k) op (k : Int)) (hp : ∀ j, k ≤ j → j ≤ lenV op → plainK (stepK op j) (useV op) = true) : ∀ j, k ≤ j → j ≤ lenV op → At c (itM c op v j) op (j : Int) := by
  intro j hj
  obtain ⟨m, rfl⟩ := Nat.exists_eq_add_of_le hj
  clear hj
  induction m with
  | zero => intro _; exact h
  | succ m ih =>
    intro hl
    have := at_plain (v := v) (ih (by omega)) (by omega) (hp (k + m) (by omega) (by omega))
    rw [← Nat.add_assoc, itM_succ _ _ _ _ (by omega)]
    unfold nxV at this
    rw [if_neg (by omega)] at this
    exact this
theorem ends_from {c : Cp} {op v : Int} (k : Nat) (hk : 0 < k) (hkl : k ≤ lenV op) (h : At c (itM c op v k) op (k : Int)) (hno : ∀ j, 0 < j → j < k → (itM c op v j).t ≠ 0) (hp : ∀ j, k ≤ j → j ≤ lenV op → plainK (stepK op j) (useV op) = true) : Ends c op v (lenV op + 1) := by
  have hA := at_from k hk h hp
  have hl := at_plain (v := v) (hA (lenV op) hkl (Nat.le_refl _)) (by omega) (hp _ hkl (Nat.le_refl _))
  unfold nxV at hl
  rw [if_pos rfl] at hl
  have e : itM c op v (lenV op + 1) = tkM (itM c op v (lenV op)) v := itM_succ _ _ _ _ (by omega)
  refine ⟨by rw [e]; exact hl.t, fun j hj hlt => ?_, by rw [e]; exact hl.jam⟩
  by_cases hjk : j < k
  · exact hno j hj hjk
  · rw [(hA j (by omega) (by omega)).t]
    omega
/-- What the table tells of an instruction's cycles. -/
inductive Shape where
  | plain | rel | jam | absx | absy | izy
deriving DecidableEq
def isShape (op : Int) : Shape → Bool
  | .plain => decide (modeV op ≠ 11) && decide (modeV op ≠ 20) && !crossV (modeV op) (useV op) && (stepsL (modeV op) (useV op)).all (fun e => plainK e.2 (useV op)) && decide (0 < lenV op) && decide (cycV (modeV op) (useV op) = (lenV op : Int) + 1)
  | .rel => decide (modeV op = 11) && decide ((stepsL (modeV op) (useV op)).map (·.2) = [.branch, .aim, .leave]) && decide (cycV (modeV op) (useV op) = 2) && decide (brF (nameV op) = if op / 64 = 0 then 128 else if op / 64 = 1 then 64 else if op / 64 = 2 then 1 else 2) && decide (brW (nameV op) = op / 32 % 2)
  | .jam => decide (modeV op = 20) && decide ((stepsL (modeV op) (useV op)).map (·.2) = [.jam])
  | .absx => decide (modeV op = 7) && decide (useV op = 1) && decide ((stepsL (modeV op) (useV op)).map (·.2) = [.keepOn, .reachX, .cross, .does]) && decide (cycV (modeV op) (useV op) = 4)
  | .absy => decide (modeV op = 8) && decide (useV op = 1) && decide ((stepsL (modeV op) (useV op)).map (·.2) = [.keepOn, .reachY, .cross, .does]) && decide (cycV (modeV op) (useV op) = 4)
  | .izy => decide (modeV op = 10) && decide (useV op = 1) && decide ((stepsL (modeV op) (useV op)).map (·.2) = [.zeroOn, .keepInZero, .pointY, .cross, .does]) && decide (cycV (modeV op) (useV op) = 5)
theorem shape_all (op : Int) (h0 : 0 ≤ op) (h1 : op < 256) : (isShape op .plain || isShape op .rel || isShape op .jam || isShape op .absx || isShape op .absy || isShape op .izy) = true :=
  byte_all (p := fun op => (isShape op .plain || isShape op .rel || isShape op .jam || isShape op .absx || isShape op .absy || isShape op .izy) = true) (by decide +kernel) op h0 h1
theorem stepK_of {op : Int} {l : List DoI} (h : (stepsL (modeV op) (useV op)).map (·.2) = l) : (∀ j, stepK op j = l.getD (j - 1) .rest) ∧ lenV op = l.length := by
  subst h
  refine ⟨fun j => ?_, ?_⟩
  · unfold stepK
    rw [List.getD_eq_getElem?_getD, List.getD_eq_getElem?_getD, List.getElem?_map]
    cases (stepsL (modeV op) (useV op))[j - 1]? <;> rfl
  · unfold lenV
    rw [List.length_map]
theorem ends_plain (c : Cp) (op v : Int) (h : Calm c) (ht : c.t = 0) (hs : isShape op .plain = true) : Ends c op v (lenV op + 1) := by
  simp only [isShape, Bool.and_eq_true, decide_eq_true_eq, List.all_eq_true] at hs
  obtain ⟨⟨⟨_, ha⟩, hl⟩, _⟩ := hs
  refine ends_from 1 (by omega) (by omega) (at_1 c op v h ht).1 (by omega) fun j hj hjl => ?_
  unfold stepK
  rw [List.getD_eq_getElem?_getD]
  cases hg : (stepsL (modeV op) (useV op))[j - 1]? with
  | none => rfl
  | some e => exact ha e (List.mem_of_getElem? hg)

theorem ends_rel (c : Cp) (op v : Int) (h : Calm c) (ht : c.t = 0) (hs : isShape op .rel = true) :
    (oneI (hasV c.p (brF (nameV op))) ≠ brW (nameV op) → Ends c op v 2) ∧
    (oneI (hasV c.p (brF (nameV op))) = brW (nameV op) → (((c.pc + 2) % 65536 + (if v < 128 then v else v + 65280)) % 65536 / 256 = (c.pc + 2) % 65536 / 256 → Ends c op v 3) ∧ (¬ ((c.pc + 2) % 65536 + (if v < 128 then v else v + 65280)) % 65536 / 256 = (c.pc + 2) % 65536 / 256 → Ends c op v 4)) := by
  simp only [isShape, Bool.and_eq_true, decide_eq_true_eq] at hs
  obtain ⟨hk, hlen⟩ := stepK_of hs.1.1.1.2
  obtain ⟨hA, hpc, _, _, hp⟩ := at_1 c op v h ht
  obtain ⟨s, epc, _, _, _, _, ep, ejam, _, _, ev, enm, _, eop, enx, hc, hl⟩ := at_n (v := v) (j := 1) hA (by omega)
  rw [hk, show (([.branch, .aim, .leave] : List DoI).getD (1 - 1) .rest) = .branch from rfl] at hl
  have hn1 : nxV op 1 = 2 := by unfold nxV; rw [hlen]; rfl
  have hn2 : nxV op 2 = 3 := by unfold nxV; rw [hlen]; rfl
  have no2 : ∀ j, 0 < j → j < 2 → (itM c op v j).t ≠ 0 := fun j h0 h1 => by rw [show j = 1 by omega, hA.t]; omega
  have hl : Like (itM c op v 2) (branchW s) := hl
  have hc : Calm (itM c op v 2) := hc
  have hjam : (branchW s).jam = c.jam := (jam_do .branch s (by decide)).trans (ejam.trans hA.jam)
  have hop : (branchW s).op = op := (op_do .branch s (by decide)).trans eop
  rw [← hp, ← ep, ← enm]
  by_cases hb : oneI (hasV s.p (brF s.nm)) = brW s.nm
  · refine ⟨fun hn => absurd hb hn, fun _ => ?_⟩
    have e2 : branchW s = { onW (keepW s) with ctl := s.ctl || hasV s.ps (brF s.nm), pcs := s.pcs || s.vb } := by
      unfold branchW
      dsimp only
      rw [if_pos hb]
      try rfl
    rw [e2] at hl hjam hop
    have hA2 : At c (itM c op v 2) op ((2 : Nat) : Int) := ⟨hc, hl.t.trans (enx.trans hn1), hl.op.trans hop, hl.jam.trans hjam⟩
    have hpc2 : (itM c op v 2).pc = (c.pc + 2) % 65536 := by
      rw [hl.pc]
      show (s.pc + 1) % 65536 = _
      rw [epc, hpc]
      omega
    have hdv2 : (itM c op v 2).dv = v := hl.dv.trans ev
    obtain ⟨q, fpc, fdv, _, _, _, _, fjam, _, _, fv, fnm, _, fop, fnx, hcq, hlq⟩ := at_n (v := v) (j := 2) hA2 (by omega)
    rw [hk, show (([.branch, .aim, .leave] : List DoI).getD (2 - 1) .rest) = .aim from rfl] at hlq
    have hlq : Like (itM c op v 3) (aimW q) := hlq
    have hcq : Calm (itM c op v 3) := hcq
    have no3 : ∀ j, 0 < j → j < 3 → (itM c op v j).t ≠ 0 := fun j h0 h1 => by
      by_cases e : j = 2
      · rw [e, hA2.t]; omega
      · exact no2 j h0 (by omega)
    have qjam : (aimW q).jam = c.jam := (jam_do .aim q (by decide)).trans (fjam.trans hA2.jam)
    have qop : (aimW q).op = op := (op_do .aim q (by decide)).trans fop
    have hT : aimT q = ((c.pc + 2) % 65536 + (if v < 128 then v else v + 65280)) % 65536 := by
      unfold aimT
      rw [fdv, hdv2, show q.pc = (c.pc + 2) % 65536 from fpc.trans hpc2]
    rw [← hT, ← hpc2, ← fpc]
    unfold aimW at hlq qjam qop
    dsimp only at hlq qjam qop
    constructor
    · intro he
      rw [if_pos he] at hlq qjam
      exact ⟨hlq.t, no3, hlq.jam.trans qjam⟩
    · intro he
      rw [if_neg he] at hlq qjam qop
      have hA3 : At c (itM c op v 3) op ((3 : Nat) : Int) := ⟨hcq, hlq.t.trans (fnx.trans hn2), hlq.op.trans qop, hlq.jam.trans qjam⟩
      have := ends_from 3 (by omega) (by rw [hlen]; exact Nat.le_refl _) hA3 no3 fun j h1 h2 => by
        rw [hlen] at h2
        have : j = 3 := by simp at h2; omega
        rw [this, hk]
        rfl
      rw [hlen] at this
      exact this
  · refine ⟨fun _ => ?_, fun hn => absurd hn hb⟩
    have e2 : branchW s = { onW (keepW s) with ctl := s.ctl || hasV s.ps (brF s.nm), nx := 0 } := by
      unfold branchW
      dsimp only
      rw [if_neg hb]
    rw [e2] at hl hjam
    exact ⟨hl.t, no2, hl.jam.trans hjam⟩
theorem cross_3 {c : Cp} {op v : Int} (j : Nat) (hj : 0 < j) (hlen : lenV op = j + 1) (hu : useV op = 1) (hk : stepK op j = .cross) (hk1 : stepK op (j + 1) = .does) (hA : At c (itM c op v j) op (j : Int)) (no : ∀ i, 0 < i → i < j → (itM c op v i).t ≠ 0) :
    ((itM c op v j).cr = false → Ends c op v (j + 1)) ∧ ((itM c op v j).cr = true → Ends c op v (j + 2)) := by
  obtain ⟨s, _, _, ecr, _, _, _, ejam, _, _, _, _, eus, eop, enx, hc, hl⟩ := at_n (v := v) (j := j) hA (by omega)
  rw [← itM_succ c op v j (by omega)] at hc hl
  rw [hk] at hl
  have hjam : (crossW s).jam = c.jam := (jam_do .cross s (by decide)).trans (ejam.trans hA.jam)
  have hop : (crossW s).op = op := (op_do .cross s (by decide)).trans eop
  have hl : Like (itM c op v (j + 1)) (crossW s) := hl
  have no1 : ∀ i, 0 < i → i < j + 1 → (itM c op v i).t ≠ 0 := fun i h0 h1 => by
    by_cases e : i = j
    · rw [e, hA.t]; omega
    · exact no i h0 (by omega)
  have hn : nxV op j = (j : Int) + 1 := by unfold nxV; rw [hlen, if_neg (by omega)]
  rw [← ecr]
  constructor
  · intro h0
    have e : (crossW s).nx = 0 := by
      unfold crossW
      rw [h0, if_neg (by decide), if_pos (eus.trans hu)]
    exact ⟨hl.t.trans e, no1, hl.jam.trans hjam⟩
  · intro h1
    have e : (crossW s).nx = (j : Int) + 1 := by
      unfold crossW
      rw [h1, if_pos rfl]
      exact enx.trans hn
    have hA1 : At c (itM c op v (j + 1)) op ((j + 1 : Nat) : Int) := ⟨hc, hl.t.trans (e.trans (by omega)), hl.op.trans hop, hl.jam.trans hjam⟩
    have := ends_from (j + 1) (by omega) (by omega) hA1 no1 fun i h1 h2 => by
      have : i = j + 1 := by omega
      rw [this, hk1]
      rfl
    rw [hlen] at this
    exact this
theorem ends_abs (c : Cp) (op v : Int) (y : Bool) (h : Calm c) (ht : c.t = 0) (hs : isShape op (if y then .absy else .absx) = true) :
    ((v + (if y then c.yv else c.xv)) % 256 < (if y then c.yv else c.xv) → Ends c op v 5) ∧ (¬ (v + (if y then c.yv else c.xv)) % 256 < (if y then c.yv else c.xv) → Ends c op v 4) := by
  have hs' : useV op = 1 ∧ (stepsL (modeV op) (useV op)).map (·.2) = [.keepOn, if y then .reachY else .reachX, .cross, .does] := by
    cases y <;> simp only [isShape, Bool.and_eq_true, decide_eq_true_eq, if_true, if_false, Bool.false_eq_true] at hs ⊢ <;> exact ⟨hs.1.1.2, hs.1.2⟩
  obtain ⟨hk, hlen⟩ := stepK_of hs'.2
  obtain ⟨hA, _, hx, hy, _⟩ := at_1 c op v h ht
  have hk1 : stepK op 1 = .keepOn := hk 1
  have hk2 : stepK op 2 = if y then .reachY else .reachX := hk 2
  have hk3 : stepK op 3 = .cross := hk 3
  have hk4 : stepK op 4 = .does := hk 4
  have hlen : lenV op = 4 := hlen
  have hn1 : nxV op 1 = 2 := by unfold nxV; rw [hlen]; rfl
  have hn2 : nxV op 2 = 3 := by unfold nxV; rw [hlen]; rfl
  have hA2 : At c (itM c op v 2) op ((2 : Nat) : Int) := by
    have := at_plain (v := v) (j := 1) hA (by omega) (by rw [hk1]; rfl)
    rw [hn1] at this
    exact this
  have hA3 : At c (itM c op v 3) op ((3 : Nat) : Int) := by
    have := at_plain (v := v) (j := 2) hA2 (by omega) (by rw [hk2]; cases y <;> rfl)
    rw [hn2] at this
    exact this
  obtain ⟨s, _, _, _, ex, ey, _, _, _, _, ev, _, _, _, _, _, hl⟩ := at_n (v := v) (j := 1) hA (by omega)
  rw [hk1] at hl
  have d2 : (itM c op v 2).dv = v := hl.dv.trans ev
  have x2 : (itM c op v 2).xv = c.xv := hl.xv.trans (ex.trans hx)
  have y2 : (itM c op v 2).yv = c.yv := hl.yv.trans (ey.trans hy)
  obtain ⟨q, _, fdv, _, fx, fy, _, _, _, _, _, _, _, _, _, _, hlq⟩ := at_n (v := v) (j := 2) hA2 (by omega)
  rw [hk2] at hlq
  have c3 : (itM c op v 3).cr = decide ((v + (if y then c.yv else c.xv)) % 256 < (if y then c.yv else c.xv)) := by
    cases y
    · refine hlq.cr.trans ?_
      show decide ((q.dv + q.xv) % 256 < q.xv) = _
      rw [fdv, d2, fx, x2]
      rfl
    · refine hlq.cr.trans ?_
      show decide ((q.dv + q.yv) % 256 < q.yv) = _
      rw [fdv, d2, fy, y2]
      rfl
  have no3 : ∀ i, 0 < i → i < 3 → (itM c op v i).t ≠ 0 := fun i h0 h1 => by
    by_cases e : i = 2
    · rw [e, hA2.t]; omega
    · rw [show i = 1 by omega, hA.t]; omega
  obtain ⟨k1, k2⟩ := cross_3 3 (by omega) hlen hs'.1 hk3 hk4 hA3 no3
  rw [c3] at k1 k2
  exact ⟨fun h => k2 (decide_eq_true h), fun h => k1 (decide_eq_false h)⟩
theorem ends_izy (c : Cp) (op v : Int) (h : Calm c) (ht : c.t = 0) (hs : isShape op .izy = true) :
    ((v + c.yv) % 256 < c.yv → Ends c op v 6) ∧ (¬ (v + c.yv) % 256 < c.yv → Ends c op v 5) := by
  simp only [isShape, Bool.and_eq_true, decide_eq_true_eq] at hs
  obtain ⟨hk, hlen⟩ := stepK_of hs.1.2
  obtain ⟨hA, _, hx, hy, _⟩ := at_1 c op v h ht
  have hk1 : stepK op 1 = .zeroOn := hk 1
  have hk2 : stepK op 2 = .keepInZero := hk 2
  have hk3 : stepK op 3 = .pointY := hk 3
  have hk4 : stepK op 4 = .cross := hk 4
  have hk5 : stepK op 5 = .does := hk 5
  have hlen : lenV op = 5 := hlen
  have hn1 : nxV op 1 = 2 := by unfold nxV; rw [hlen]; rfl
  have hn2 : nxV op 2 = 3 := by unfold nxV; rw [hlen]; rfl
  have hn3 : nxV op 3 = 4 := by unfold nxV; rw [hlen]; rfl
  have hA2 : At c (itM c op v 2) op ((2 : Nat) : Int) := by
    have := at_plain (v := v) (j := 1) hA (by omega) (by rw [hk1]; rfl)
    rw [hn1] at this
    exact this
  have hA3 : At c (itM c op v 3) op ((3 : Nat) : Int) := by
    have := at_plain (v := v) (j := 2) hA2 (by omega) (by rw [hk2]; rfl)
    rw [hn2] at this
    exact this
  have hA4 : At c (itM c op v 4) op ((4 : Nat) : Int) := by
    have := at_plain (v := v) (j := 3) hA3 (by omega) (by rw [hk3]; rfl)
    rw [hn3] at this
    exact this
  obtain ⟨s, _, _, _, _, ey, _, _, _, _, _, _, _, _, _, _, hl⟩ := at_n (v := v) (j := 1) hA (by omega)
  rw [hk1] at hl
  have y2 : (itM c op v 2).yv = c.yv := hl.yv.trans (ey.trans hy)
  obtain ⟨q, _, _, _, _, fy, _, _, _, _, fv, _, _, _, _, _, hlq⟩ := at_n (v := v) (j := 2) hA2 (by omega)
  rw [hk2] at hlq
  have y3 : (itM c op v 3).yv = c.yv := hlq.yv.trans (fy.trans y2)
  have d3 : (itM c op v 3).dv = v := hlq.dv.trans fv
  obtain ⟨r, _, gdv, _, _, gy, _, _, _, _, _, _, _, _, _, _, hlr⟩ := at_n (v := v) (j := 3) hA3 (by omega)
  rw [hk3] at hlr
  have c4 : (itM c op v 4).cr = decide ((v + c.yv) % 256 < c.yv) := by
    refine hlr.cr.trans ?_
    show decide ((r.dv + r.yv) % 256 < r.yv) = _
    rw [gdv, d3, gy, y3]
  have no4 : ∀ i, 0 < i → i < 4 → (itM c op v i).t ≠ 0 := fun i h0 h1 => by
    by_cases e : i = 3
    · rw [e, hA3.t]; omega
    · by_cases e : i = 2
      · rw [e, hA2.t]; omega
      · rw [show i = 1 by omega, hA.t]; omega
  obtain ⟨k1, k2⟩ := cross_3 4 (by omega) hlen hs.1.1.2 hk4 hk5 hA4 no4
  rw [c4] at k1 k2
  exact ⟨fun h => k2 (decide_eq_true h), fun h => k1 (decide_eq_false h)⟩
/-- The end never ends. -/
theorem jams (c : Cp) (op v : Int) (h : Calm c) (ht : c.t = 0) (hs : isShape op .jam = true) : ∀ n, At c (itM c op v (n + 1)) op 1 ∨ (Calm (itM c op v (n + 1)) ∧ (itM c op v (n + 1)).t = 1 ∧ (itM c op v (n + 1)).op = op ∧ (itM c op v (n + 1)).jam = true) := by
  simp only [isShape, Bool.and_eq_true, decide_eq_true_eq] at hs
  obtain ⟨hk, hlen⟩ := stepK_of hs.2
  have hk1 : stepK op 1 = .jam := hk 1
  intro n
  induction n with
  | zero => exact .inl (at_1 c op v h ht).1
  | succ n ih =>
    right
    have : ∃ c0, At c0 (itM c op v (n + 1)) op ((1 : Nat) : Int) := by
      rcases ih with ih | ⟨h1, h2, h3, h4⟩
      · exact ⟨_, ih⟩
      · exact ⟨itM c op v (n + 1), h1, h2, h3, rfl⟩
    obtain ⟨c0, hA⟩ := this
    obtain ⟨s, _, _, _, _, _, _, _, et, _, _, _, _, eop, _, hc, hl⟩ := at_n (v := v) (j := 1) hA (by omega)
    rw [hk1] at hl
    exact ⟨hc, hl.t.trans (et.trans hA.t), hl.op.trans eop, hl.jam⟩
theorem jam_two (c : Cp) (op v : Int) (h : Calm c) (ht : c.t = 0) (hs : isShape op .jam = true) (n : Nat) : (itM c op v (n + 1)).t = 1 ∧ (itM c op v (n + 2)).jam = true := by
  constructor
  · rcases jams c op v h ht hs n with ih | ih
    · exact ih.t
    · exact ih.2.1
  · simp only [isShape, Bool.and_eq_true, decide_eq_true_eq] at hs
    obtain ⟨hk, hlen⟩ := stepK_of hs.2
    have hk1 : stepK op 1 = .jam := hk 1
    have : ∃ c0, At c0 (itM c op v (n + 1)) op ((1 : Nat) : Int) := by
      rcases jams c op v h ht (by simp only [isShape, Bool.and_eq_true, decide_eq_true_eq]; exact hs) n with ih | ⟨h1, h2, h3, h4⟩
      · exact ⟨_, ih⟩
      · exact ⟨itM c op v (n + 1), h1, h2, h3, rfl⟩
    obtain ⟨c0, hA⟩ := this
    obtain ⟨s, _, _, _, _, _, _, _, et, _, _, _, _, eop, _, hc, hl⟩ := at_n (v := v) (j := 1) hA (by omega)
    rw [hk1] at hl
    exact hl.jam
end Go.Proofs.YtopmlmpadkdhjaaGreatDoor
