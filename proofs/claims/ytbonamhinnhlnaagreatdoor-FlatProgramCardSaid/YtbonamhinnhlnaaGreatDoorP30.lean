/-
  Several texts in one: what is read and written by the functions on the way to the statements. Conditions stand in each theorem.
-/
import Derived.Test.YtbonamhinnhlnaaGreatDoorP27
import Derived.Test.YtbonamhinnhlnaaGreatDoorP28
import Derived.Test.YtbonamhinnhlnaaGreatDoorP29
import Derived.Test.YtbonamhinnhlnaaGreatDoorP10
import Derived.Test.YtbonamhinnhlnaaGreatDoorP01
import Derived.Maps.AppendAt
import Derived.Deep.DeepAppendRoom
import Derived.Deep.AppendSrc
namespace Go.Proofs.YtbonamhinnhlnaaGreatDoor
open Go.RowKit
set_option linter.unusedSimpArgs false
set_option linter.unusedVariables false
set_option maxRecDepth 20000

theorem ask_hb (k : AskI) : ((Tryz.prog.funcs[askF k]?).map fun fn => fn.body.isNone || fn.name == "runtime.NumGoroutine") = some false := by cases k <;> kernel_rfl
theorem do_hb (k : DoI) : ((Tryz.prog.funcs[doF k]?).map fun fn => fn.body.isNone || fn.name == "runtime.NumGoroutine") = some false := by cases k <;> kernel_rfl
theorem wpList_callf {P : Program} {ops : Array Oper} {rest : List Oper} {o : Oper} {a : Act} {w : World} {Q : Exit → Act → World → Prop} (hgd : Region.wanted o (yielded ops a.tmps) = true) {f : FuncId} {c : Call} {x : Operand} {vals : Array Value} {R : Ending → World → Prop} (ho : o.op = .call c) (hc : c.callee = .value x) (hx : a.eval x = .func (.func f) #[] #[]) (ha : c.args.map a.eval = vals)
    (hb : ((P.funcs[f]?).map fun fn => fn.body.isNone || fn.name == "runtime.NumGoroutine") = some false) (hC : Calls P f vals w R) (h : ∀ e w', R e w' → ∃ v, e = .returned v ∧ wpList P ops Q rest (a.put o.dst v) w') : wpList P ops Q (o :: rest) a w :=
  wpList_want' hgd fun _ hK => wp_callc (caps := #[]) ho hc hx ha hb (by simp) hC fun e w' hr => by
    obtain ⟨v, hv, hl⟩ := h e w' hr
    exact ⟨v, hv, hK _ _ hl⟩
theorem wpList_mbuildv {P : Program} {ops : Array Oper} {rest : List Oper} {o : Oper} {a : Act} {w : World} {Q : Exit → Act → World → Prop} (hgd : Region.wanted o (yielded ops a.tmps) = true) (T : TypeId) (xs : Array (Nat × Operand)) (ho : o.op = .build T xs) (vs : Array (Nat × Value)) (hx : xs.map (fun (i, x) => (i, a.eval x)) = vs) (r : Value)
    (hr : ∀ w : World, (Instr.build T vs).run P w = .ok r w) (h : wpList P ops Q rest (a.put o.dst r) w) : wpList P ops Q (o :: rest) a w :=
  wpList_want' hgd fun _ hK => by
    unfold Oper.wp execOp
    simp only [ho, hx, Sem.run_bind, Sem.run_pure, hr, Result.andThen_ok, Oper.upon]
    exact hK _ _ h
theorem build_wk (c : Cp) (v : Int) (b : Bool) (w : World) : (Instr.build 104 #[(0, .agg (cpC c)), (2, .agg #[.int .u8 v, .bool b])]).run Tryz.prog w = .ok (.agg (wkC (emptyW c v b))) w := by kernel_rfl
theorem build_wk1 (c : Cp) (w : World) : (Instr.build 104 #[(0, .agg (cpC c))]).run Tryz.prog w = .ok (.agg (wkC (emptyW c 0 false))) w := by kernel_rfl
theorem field_sc (b : Bs) (z : Bool) (h : b.sc = z) (w : World) : (Instr.field 36 (.agg (bsC b)) 3).run Tryz.prog w = .ok (.bool z) w := by
  subst h
  kernel_rfl
theorem Fit.empty {c : Cp} (F : Fit c) {v : Int} {b : Bool} (v0 : 0 ≤ v) (v1 : v < 256) : Fiw (emptyW c v b) := ⟨F, v0, v1⟩
theorem Fit.turn {s : Wk} (F : Fiw s) : Fiw (turnW s) := ⟨by rw [turnW_cp]; exact F.f, by rw [turnW_v]; exact F.v0, by rw [turnW_v]; exact F.v1⟩
theorem Fit.ctl {s : Wk} (F : Fiw s) (b : Bool) : Fiw (s.uCtl b) := ⟨{ F.f with }, F.v0, F.v1⟩
theorem Fit.fend {s : Wk} (F : Fiw s) : Fiw (endW s) := by
  unfold endW
  split
  · exact ⟨{ F.f with }, F.v0, F.v1⟩
  · split <;> exact ⟨{ F.f with }, F.v0, F.v1⟩
theorem turn_ct (s : Wk) (F : Fiw s) (h : okB s.toCp = true) (R : Nat) (T : TypeId) (w : World) (G : GlobO w) (hR : w.heap[R]? = some (.cells (wkC s) T)) : Calls Tryz.prog 52 #[.pointer (some ⟨R, 0, none⟩)] w fun e w' => e = .returned (.agg #[.func (.func (askF (turnS s).1)) #[] #[], .func (.func (doF (turnS s).2)) #[] #[]]) ∧ Mem w.heap.size [R] w w' [(R, wkC (turnW s))] := by
  obtain ⟨⟨t0, t1⟩, _⟩ := (okB_iff _).1 h
  by_cases h0 : s.t = 0
  · exact turn_0 s F h0 R T w G hR
  · exact turn_1 s F h0 t0 t1 R T w G hR
attribute [local irreducible] wpList
set_option maxHeartbeats 4000000 in
theorem take_ct (c : Cp) (v : Int) (b i n r : Bool) (F : Fit c) (ok : okB c = true) (v0 : 0 ≤ v) (v1 : v < 256) (w : World) (G : GlobO w) : Calls Tryz.prog 31 #[.agg (cpC c), .agg #[.int .u8 v, .bool b], .agg #[.bool i, .bool n, .bool r]] w fun e w' => e = .returned (.tuple #[.agg (cpC (takeM c v b i n r)), .int .i64 0]) ∧ Below w.heap.size w w' := by
  have F0 : Fiw (emptyW c v b) := Fit.empty F v0 v1
  have F1 : Fiw (turnW (emptyW c v b)) := Fit.turn F0
  have QT := Lib.hid (turn_ct (emptyW c v b) F0 ok)
  have QC := Lib.hid (fun wr (g : GlobO wr) => (show Calls Tryz.prog 28 #[.agg (cpC c)] wr fun e w' => e = .returned (.int .i64 0) ∧ Below wr.heap.size wr w' by
    have := kcheck_ct c wr g F.p0 F.p1 F.q0 F.q1 F.op0 F.op1
    rw [ok] at this
    exact this))
  have TN := fun z => turn_names (emptyW c v b) F0 z
  have hw : takeM c v b i n r = (hearW (endW (doM (turnS (emptyW c v b)).2 ((turnW (emptyW c v b)).uCtl ((turnW (emptyW c v b)).ctl || (askM (turnS (emptyW c v b)).1 (turnW (emptyW c v b))).sc)))) i n r).toCp := rfl
  rw [hw]
  clear hw
  have QA := Lib.hid (ask_ct (turnS (emptyW c v b)).1 (turnW (emptyW c v b)) F1 (TN false).1)
  generalize hk : (turnS (emptyW c v b)).1 = k at *
  generalize hd : (turnS (emptyW c v b)).2 = d at *
  generalize hs1 : turnW (emptyW c v b) = s1 at *
  generalize ha : askM k s1 = q at *
  have HZC := Lib.hid alloc_cpu
  have HZW := Lib.hid alloc_wk
  have HZS := Lib.hid alloc_step
  have GG := Lib.hid G
  have H := Mem.start w
  cases hsc : q.sc
  case' false =>
    obtain ⟨S2, hS⟩ : ∃ S2, S2 = s1 := ⟨_, rfl⟩
    rw [show s1.uCtl (s1.ctl || false) = S2 from by rw [hS, Bool.or_false]; rfl]
  case' true =>
    obtain ⟨S2, hS⟩ : ∃ S2, S2 = s1.uCtl true := ⟨_, rfl⟩
    rw [show s1.uCtl (s1.ctl || true) = S2 from by rw [hS, Bool.or_true]]
  all_goals
    have F2 : Fiw S2 := by rw [hS]; first | exact F1 | exact Fit.ctl F1 _
    have ND : doOk d S2 := by rw [hS]; first | exact (TN true).2 | exact (TN s1.ctl).2
    have QF := Lib.hid (field_sc q _ hsc)
    have QD := Lib.hid (do_ct d S2 F2 ND)
    have F3 := Fit.done F2 d
    have QE := Lib.hid (end_ct (doM d S2))
    have QH := Lib.hid (hear_ct (endW (doM d S2)) i n r (Fit.fend F3))
    clear F0 F1 F2 F3 ND TN hsc F ok v0 v1 G ha hk hd hs1
    subst hS
    have M1 : True := trivial
    have M2 : True := trivial
    have M3 : True := trivial
    have M4 : True := trivial
    have M5 : True := trivial
    have M6 : True := trivial
    go_enter Tryz.func31, Tryz.ntmps31
    go_wp2_with (first | (clear M1; refine wpList_mboxA rfl _ _ rfl H _ rfl ?_; clear H; intro Rc w1 _ H) | (clear M2; refine wpList_mboxA rfl _ _ rfl H _ rfl ?_; clear H; intro Rv w1 _ H) | (clear M3; refine wpList_mboxA rfl _ _ rfl H _ rfl ?_; clear H; intro Rl w1 _ H) | (clear M4; refine wpList_mnew rfl _ rfl H _ HZC.out ?_; clear H; intro Rr w1 _ H) | (refine gate_load _ _ rfl ?_; refine wpList_mloadA rfl 28 _ rfl _ rfl 3 H (cpC _) rfl (by decide +kernel) (by kernel_rfl) ?_) | (go_at_call 28; (with_reducible refine (QC.out _ (GG.out.mem H)).mono ?_); rintro e w2 ⟨rfl, hB⟩; replace H := H.next hB; clear hB) | (refine gate_load _ _ rfl ?_; refine wpList_mloadA rfl 23 _ rfl _ rfl 2 H #[.int .u8 _, .bool _] rfl (by decide +kernel) (by kernel_rfl) ?_) | (refine wpList_mbuildv rfl _ _ rfl _ (by first | (simp only [List.map_toArray, List.map_cons, List.map_nil, Act.eval]; done) | (simp only [List.map_toArray, List.map_cons, List.map_nil, Act.eval]; rfl) | rfl) _ (build_wk _ _ _) ?_) | (clear M5; refine wpList_mnew rfl _ rfl H _ HZW.out ?_; clear H; intro Rw w1 _ H) | (refine gate_store _ _ _ rfl ?_; refine wpList_mstoreA rfl 104 _ _ rfl rfl _ rfl 0 H (wkC _) _ rfl rfl (by kernel_rfl) (by kernel_rfl) (by kernel_rfl) ?_; clear H; intro w1 H; simp only [List.set_cons_zero, List.set_cons_succ] at H) | (go_at_call 52; obtain ⟨T0, hT⟩ := H.get (i := 0) rfl; (with_reducible refine Calls.mono (QT.out _ _ _ (GG.out.mem H) hT) ?_); rintro e w2 ⟨rfl, hm⟩; replace H := H.call (i := 0) rfl hm; clear hm hT; simp only [List.set_cons_zero, List.set_cons_succ] at H) | (clear M6; refine wpList_mnew rfl _ rfl H _ HZS.out ?_; clear H; intro Rn w1 _ H) | (refine gate_store _ _ _ rfl ?_; refine wpList_mstoreA rfl 108 _ _ rfl rfl _ rfl 0 H #[_, _] _ rfl rfl (by kernel_rfl) (by kernel_rfl) (by kernel_rfl) ?_; clear H; intro w1 H; simp only [List.set_cons_zero, List.set_cons_succ] at H) | (refine gate_load _ _ rfl ?_; refine wpList_mload1 rfl _ _ rfl _ _ rfl 0 H _ (.func _ _ _) rfl rfl (by decide +kernel) ?_) | (refine gate_load _ _ rfl ?_; refine wpList_mloadA rfl 104 _ rfl _ rfl 1 H (wkC _) rfl (by decide +kernel) (by kernel_rfl) ?_) | (refine wpList_callf rfl rfl rfl rfl (by simp only [List.map_toArray, List.map_cons, List.map_nil, Act.eval]; rfl) (ask_hb _) (QA.out _) ?_; rintro e w2 ⟨rfl, hB⟩; refine ⟨_, rfl, ?_⟩; replace H := H.next hB; clear hB) | (refine wpList_mfield rfl _ _ _ rfl (.agg _) _ rfl QF.out ?_) | (refine gate_store _ _ _ rfl ?_; refine wpList_mstore rfl _ _ _ rfl rfl _ _ rfl 1 H _ _ rfl (.bool _) rfl (by kernel_rfl) (of_decide_eq_true (by kernel_rfl)) (by kernel_rfl) (st_B rfl) ?_; clear H; intro w1 H; simp only [List.set_cons_zero, List.set_cons_succ] at H) | (obtain ⟨T0, hT⟩ := H.get (i := 1) rfl; refine wpList_callf rfl rfl rfl rfl (by simp only [List.map_toArray, List.map_cons, List.map_nil, Act.eval]; rfl) (do_hb _) (QD.out _ _ _ hT) ?_; rintro e w2 ⟨rfl, hm⟩; refine ⟨_, rfl, ?_⟩; replace H := H.call (i := 1) rfl hm; clear hm hT; simp only [List.set_cons_zero, List.set_cons_succ] at H) | (go_at_call 54; obtain ⟨T0, hT⟩ := H.get (i := 1) rfl; (with_reducible refine Calls.mono (QE.out _ _ _ hT) ?_); rintro e w2 ⟨rfl, hm⟩; replace H := H.call (i := 1) rfl hm; clear hm hT; simp only [List.set_cons_zero, List.set_cons_succ] at H) | (refine gate_load _ _ rfl ?_; refine wpList_mloadA rfl 31 _ rfl _ rfl 3 H #[.bool _, .bool _, .bool _] rfl (by decide +kernel) (by kernel_rfl) ?_) | (go_at_call 55; obtain ⟨T0, hT⟩ := H.get (i := 1) rfl; (with_reducible refine Calls.mono (QH.out _ _ _ hT) ?_); rintro e w2 ⟨rfl, hm⟩; replace H := H.call (i := 1) rfl hm; clear hm hT; simp only [List.set_cons_zero, List.set_cons_succ] at H) | (refine gate_load _ _ rfl ?_; refine wpList_mload rfl 28 _ rfl _ _ rfl 1 H _ (cpC _) rfl (by decide +kernel) (by kernel_rfl) (wk_cpu _) ?_) | (refine gate_store _ _ _ rfl ?_; refine wpList_mstoreA rfl 28 _ _ rfl rfl _ rfl 2 H (cpC _) _ rfl rfl (by kernel_rfl) (by kernel_rfl) (by kernel_rfl) ?_; clear H; intro w1 H; simp only [List.set_cons_zero, List.set_cons_succ] at H) | fail)
    refine ret_mem2 rfl _ rfl 2 H _ rfl (by kernel_rfl) (by kernel_rfl) rfl _ rfl ?_
    exact ⟨rfl, H.toBelow⟩
end Go.Proofs.YtbonamhinnhlnaaGreatDoor
namespace Go.Proofs.YtbonamhinnhlnaaGreatDoor
open Go.RowKit
set_option linter.unusedSimpArgs false
set_option linter.unusedVariables false
set_option maxRecDepth 20000

attribute [local irreducible] wpList
set_option maxHeartbeats 4000000 in
theorem kask_ct (c : Cp) (F : Fit c) (ok : okB c = true) (w : World) (G : GlobO w) : Calls Tryz.prog 29 #[.agg (cpC c)] w fun e w' => e = .returned (.agg (bsC (askedM c))) ∧ Below w.heap.size w w' := by
  have F0 : Fiw (emptyW c 0 false) := Fit.empty F (by decide) (by decide)
  have F1 : Fiw (turnW (emptyW c 0 false)) := Fit.turn F0
  have QT := Lib.hid (turn_ct (emptyW c 0 false) F0 ok)
  have QC := Lib.hid (fun wr (g : GlobO wr) => (show Calls Tryz.prog 28 #[.agg (cpC c)] wr fun e w' => e = .returned (.int .i64 0) ∧ Below wr.heap.size wr w' by
    have := kcheck_ct c wr g F.p0 F.p1 F.q0 F.q1 F.op0 F.op1
    rw [ok] at this
    exact this))
  have hw : askedM c = askM (turnS (emptyW c 0 false)).1 (turnW (emptyW c 0 false)) := rfl
  rw [hw]
  clear hw
  have QA := Lib.hid (ask_ct (turnS (emptyW c 0 false)).1 (turnW (emptyW c 0 false)) F1 (turn_names (emptyW c 0 false) F0 false).1)
  generalize (turnS (emptyW c 0 false)).1 = k at *
  generalize (turnS (emptyW c 0 false)).2 = d at *
  generalize turnW (emptyW c 0 false) = s1 at *
  have HZB := Lib.hid alloc_bus
  have HZW := Lib.hid alloc_wk
  have HZS := Lib.hid alloc_step
  have GG := Lib.hid G
  have H := Mem.start w
  clear F0 F1 F ok G
  have M1 : True := trivial
  have M2 : True := trivial
  have M3 : True := trivial
  have M4 : True := trivial
  have M5 : True := trivial
  go_enter Tryz.func29, Tryz.ntmps29
  go_wp2_with (first | (clear M1; refine wpList_mboxA rfl _ _ rfl H _ rfl ?_; clear H; intro Rc w1 _ H) | (clear M2; refine wpList_mnew rfl _ rfl H _ HZB.out ?_; clear H; intro Rr w1 _ H) | (refine gate_load _ _ rfl ?_; refine wpList_mloadA rfl 28 _ rfl _ rfl 1 H (cpC _) rfl (by decide +kernel) (by kernel_rfl) ?_) | (go_at_call 28; (with_reducible refine (QC.out _ (GG.out.mem H)).mono ?_); rintro e w2 ⟨rfl, hB⟩; replace H := H.next hB; clear hB) | (refine wpList_mbuildv rfl _ _ rfl _ (by simp only [List.map_toArray, List.map_cons, List.map_nil, Act.eval]; rfl) _ (build_wk1 _) ?_) | (clear M3; refine wpList_mnew rfl _ rfl H _ HZW.out ?_; clear H; intro Rw w1 _ H) | (refine gate_store _ _ _ rfl ?_; refine wpList_mstoreA rfl 104 _ _ rfl rfl _ rfl 0 H (wkC _) _ rfl rfl (by kernel_rfl) (by kernel_rfl) (by kernel_rfl) ?_; clear H; intro w1 H; simp only [List.set_cons_zero, List.set_cons_succ] at H) | (go_at_call 52; obtain ⟨T0, hT⟩ := H.get (i := 0) rfl; (with_reducible refine Calls.mono (QT.out _ _ _ (GG.out.mem H) hT) ?_); rintro e w2 ⟨rfl, hm⟩; replace H := H.call (i := 0) rfl hm; clear hm hT; simp only [List.set_cons_zero, List.set_cons_succ] at H) | (clear M4; refine wpList_mnew rfl _ rfl H _ HZS.out ?_; clear H; intro Rn w1 _ H) | (refine gate_store _ _ _ rfl ?_; refine wpList_mstoreA rfl 108 _ _ rfl rfl _ rfl 0 H #[_, _] _ rfl rfl (by kernel_rfl) (by kernel_rfl) (by kernel_rfl) ?_; clear H; intro w1 H; simp only [List.set_cons_zero, List.set_cons_succ] at H) | (refine gate_load _ _ rfl ?_; refine wpList_mload1 rfl _ _ rfl _ _ rfl 0 H _ (.func _ _ _) rfl rfl (by decide +kernel) ?_) | (refine gate_load _ _ rfl ?_; refine wpList_mloadA rfl 104 _ rfl _ rfl 1 H (wkC _) rfl (by decide +kernel) (by kernel_rfl) ?_) | (refine wpList_callf rfl rfl rfl rfl (by simp only [List.map_toArray, List.map_cons, List.map_nil, Act.eval]; rfl) (ask_hb _) (QA.out _) ?_; rintro e w2 ⟨rfl, hB⟩; refine ⟨_, rfl, ?_⟩; replace H := H.next hB; clear hB) | (refine gate_store _ _ _ rfl ?_; refine wpList_mstoreA rfl 36 _ _ rfl rfl _ rfl 2 H (bsC _) _ rfl rfl (by kernel_rfl) (by kernel_rfl) (by kernel_rfl) ?_; clear H; intro w1 H; simp only [List.set_cons_zero, List.set_cons_succ] at H) | fail)
  refine ret_mem1 rfl _ rfl 2 H _ rfl (by kernel_rfl) (by kernel_rfl) rfl ?_
  exact ⟨rfl, H.toBelow⟩
end Go.Proofs.YtbonamhinnhlnaaGreatDoor
namespace Go.Proofs.YtbonamhinnhlnaaGreatDoor
open Go.RowKit

/-- A list of bytes, cell by cell. -/
def flat : List (Int × Bool) → List Value
  | [] => []
  | p :: r => .int .u8 p.1 :: .bool p.2 :: flat r
theorem flat_length (l : List (Int × Bool)) : (flat l).length = l.length * 2 := by
  induction l with
  | nil => rfl
  | cons p r ih => simp only [flat, List.length_cons, ih]; omega
theorem flat_append (l m : List (Int × Bool)) : flat (l ++ m) = flat l ++ flat m := by
  induction l with
  | nil => rfl
  | cons p r ih => simp [flat, ih]
theorem flat_one (l : List (Int × Bool)) : ∀ u ∈ flat l, u.oneCell' = true := by
  induction l with
  | nil => intro u hu; cases hu
  | cons p r ih =>
    intro u hu
    simp only [flat, List.mem_cons] at hu
    rcases hu with rfl | rfl | hu
    · rfl
    · rfl
    · exact ih u hu
theorem flat_get (l : List (Int × Bool)) : ∀ k, k < l.length → (flat l)[k * 2]? = some (.int .u8 (nth l k).1) ∧ (flat l)[k * 2 + 1]? = some (.bool (nth l k).2) := by
  induction l with
  | nil => intro k hk; simp at hk
  | cons p r ih =>
    intro k hk
    cases k with
    | zero => simp [flat, nth]
    | succ k =>
      have e1 : (k + 1) * 2 = k * 2 + 1 + 1 := by omega
      have e2 : (k + 1) * 2 + 1 = k * 2 + 1 + 1 + 1 := by omega
      have e3 : nth (p :: r) (k + 1) = nth r k := by simp [nth]
      rw [e2, e1, flat, e3, List.getElem?_cons_succ, List.getElem?_cons_succ, List.getElem?_cons_succ, List.getElem?_cons_succ]
      exact ih k (by simpa using hk)
theorem flat_inv (l : List (Int × Bool)) (j : Nat) (u : Value) (h : (flat l)[j]? = some u) : ∃ k, k < l.length ∧ ((j = k * 2 ∧ u = .int .u8 (nth l k).1) ∨ (j = k * 2 + 1 ∧ u = .bool (nth l k).2)) := by
  have hj : j < (flat l).length := (List.getElem?_eq_some_iff.1 h).1
  rw [flat_length] at hj
  have hk : j / 2 < l.length := by omega
  obtain ⟨h1, h2⟩ := flat_get l (j / 2) hk
  refine ⟨j / 2, hk, ?_⟩
  rcases Nat.mod_two_eq_zero_or_one j with e | e
  · have ej : j = j / 2 * 2 := by omega
    rw [← ej] at h1
    exact .inl ⟨ej, by rw [h] at h1; exact Option.some.inj h1⟩
  · have ej : j = j / 2 * 2 + 1 := by omega
    rw [← ej] at h2
    exact .inr ⟨ej, by rw [h] at h2; exact Option.some.inj h2⟩

/-- What is appended. -/
def SrcR (w : World) (x : Value) (l : List (Int × Bool)) : Prop :=
  (∃ c, x = .slice none 0 c ∧ l = []) ∨ ∃ a c, x = .slice (some a) l.length c ∧ ∀ j u, (flat l)[j]? = some u → w.cell? (a.add j) = some u
theorem add_mk (b off j : Nat) : (⟨b, off, none⟩ : Addr).add j = ⟨b, off + j, none⟩ := by unfold Addr.add; split <;> simp_all
theorem Rd.src {w : World} {x : Value} {l : List (Int × Bool)} (h : Rd w x l) : SrcR w x l := by
  obtain ⟨a, cap, rfl, _, _, h⟩ := h
  rcases h with rfl | ⟨b, off, rfl, _, hc⟩
  · cases a with
    | none => exact .inl ⟨cap, rfl, rfl⟩
    | some a => exact .inr ⟨a, cap, rfl, fun j u hu => by simp [flat] at hu⟩
  · refine .inr ⟨_, cap, rfl, fun j u hu => ?_⟩
    obtain ⟨k, hk, h | h⟩ := flat_inv l j u hu
    · rw [h.1, h.2, add_mk]; exact (hc k hk).1
    · rw [h.1, h.2, add_mk]; exact (hc k hk).2

/-- A slice of the call's own that reads as a list. -/
def Own (w : World) (base g cap : Nat) (l : List (Int × Bool)) : Prop := w.ownsRow base 23 2 (.slice (some ⟨g, 0, none⟩) l.length cap) l.length (flat l)
theorem Own.lt {w : World} {base g cap : Nat} {l : List (Int × Bool)} (h : Own w base g cap l) : g < w.heap.size ∧ base ≤ g := by
  rcases h.2 with ⟨h0, _⟩ | ⟨g', cap', cur, hv, hb, hg, _⟩
  · cases h0
  · injection hv with h1 h2 h3
    injection h1 with h1
    injection h1 with h1
    subst h1
    refine ⟨?_, hb⟩
    rcases Nat.lt_or_ge g w.heap.size with h' | h'
    · exact h'
    · rw [Array.getElem?_eq_none h'] at hg; cases hg
theorem Own.rd {w : World} {base g cap : Nat} {l : List (Int × Bool)} (h : Own w base g cap l) : Rd w (.slice (some ⟨g, 0, none⟩) l.length cap) l := by
  have hlt := h.lt.1
  have hc := World.ownsRow.cells h (g := g) rfl
  rcases h.2 with ⟨h0, _⟩ | ⟨g', cap', cur, hv, hb, hg, hn, hm, _⟩
  · cases h0
  · injection hv with h1 h2 h3
    subst h3
    refine ⟨_, _, rfl, hn, hm, .inr ⟨g, 0, rfl, hlt, fun k hk => ?_⟩⟩
    obtain ⟨e1, e2⟩ := flat_get l k hk
    have c1 := hc _ _ e1
    have c2 := hc _ _ e2
    rw [add_mk] at c1 c2
    exact ⟨c1, c2⟩
theorem Own.cut {w : World} {base g cap : Nat} {l m : List (Int × Bool)} (h : Own w base g cap (l ++ m)) : Own w base g cap l := by
  rcases h.2 with ⟨h0, _⟩ | ⟨g', cap', cur, hv, hb, hg, hn, hm, hs, ht⟩
  · cases h0
  · injection hv with h1 h2 h3
    injection h1 with h1
    injection h1 with h1
    subst h1 h3
    refine ⟨flat_length l, .inr ⟨g, cap, cur, rfl, hb, hg, by rw [List.length_append] at hn; omega, hm, hs, ?_⟩⟩
    have e : (cur.toList.take ((l ++ m).length * 2)).take (l.length * 2) = cur.toList.take (l.length * 2) := by
      rw [List.take_take, Nat.min_eq_left (by rw [List.length_append]; omega)]
    rw [← e, ht, flat_append, List.take_left' (flat_length l)]
theorem Own.below {w w' : World} {base g cap : Nat} {l : List (Int × Bool)} (h : Own w base g cap l) (hb : Below w.heap.size w w') : Own w' base g cap l := by
  have hlt := h.lt.1
  rcases h.2 with ⟨h0, _⟩ | ⟨g', cap', cur, hv, hb', hg, r⟩
  · cases h0
  · have e : g' = g := by
      injection hv with h1 h2 h3
      injection h1 with h1
      injection h1 with h1
      exact h1.symm
    exact ⟨h.1, .inr ⟨g', cap', cur, hv, hb', by rw [hb.block g' (by omega)]; exact hg, r⟩⟩

theorem info_byte : (Tryz.prog.info? 23).map (fun i => (i.zero, i.size, i.bytes)) = some (some (.agg #[.int .u8 0, .bool false]), 2, 2) := by kernel_rfl

set_option maxHeartbeats 1000000 in
/-- WHAT append DOES. -/
theorem app_bytes (w : World) (base g cap : Nat) (l m : List (Int × Bool)) (x : Value) (ty : TypeId) (own : Own w base g cap l) (hs : SrcR w x m) (hn : l.length + m.length ≤ 100000) (hbase : base ≤ w.heap.size) :
    ∃ g' cap' w', (Builtin.append_ #[29, 29] ty #[.slice (some ⟨g, 0, none⟩) l.length cap, x]).run Tryz.prog w = .ok (.slice (some ⟨g', 0, none⟩) (l ++ m).length cap') w' ∧
      Own w' base g' cap' (l ++ m) ∧ Own w' base g cap l ∧ Below base w w' := by
  obtain ⟨i0, hi, hz0, hz1, hz2⟩ := info_parts info_byte
  have hlt := own.lt
  rcases hs with ⟨c, rfl, rfl⟩ | ⟨a, c, rfl, hc⟩
  · have hcap : l.length ≤ cap := by
      obtain ⟨_, _, hv, h, _⟩ := own.rd
      injection hv with _ _ h3
      rw [h3]; exact h
    refine ⟨g, cap, w, ?_, by rw [List.append_nil]; exact own, own, Below.refl _ _⟩
    rw [List.append_nil]
    simp [Builtin.append_, run_underlying Tryz.underlying29, sizeOf, typeInfo, hi, Builtin.lenOf, Builtin.firstCells, hcap, storeCells]
  · have hl : (flat m).length = m.length * 2 := flat_length m
    by_cases hroom : l.length + m.length ≤ cap
    · obtain ⟨w', hrun, hown', hg⟩ := run_append_own_spare (P := Tryz.prog) w base 29 ty 23 i0 2 Tryz.underlying29 hi hz1 g l.length cap (flat l) own a m.length c (flat m) hl hc (flat_one m) hroom
      have ho : Own w' base g cap (l ++ m) := by unfold Own; rw [List.length_append, flat_append]; exact hown'
      refine ⟨g, cap, w', by rw [List.length_append]; exact hrun, ho, ho.cut, ?_⟩
      exact (Below.refl base w).grown hg hbase (fun k hk => by injection hk with hk; omega)
    · obtain ⟨v', w', hrun, hown', hg, _, _⟩ := run_append_own_at (P := Tryz.prog) w base 29 ty 23 i0 _ 2 2 Tryz.underlying29 hi hz0 hz1 hz2 rfl (by omega) _ l.length (flat l) own a m.length c (flat m) hl hc (flat_one m) (by unfold maxLen; omega) (by omega) hbase
      have hold : (Builtin.firstCells i0.size l.length (.slice (some ⟨g, 0, none⟩) l.length cap)).run Tryz.prog w.drew = .ok (flat l).toArray w.drew := by
        rw [hz1]
        exact run_firstCells_some (P := Tryz.prog) w.drew 2 l.length _ _ _ (flat l) (flat_length l) (by simpa using World.ownsRow.cells own (g := g) rfl)
      have hsrc : Src Tryz.prog i0.size 29 (.slice (some a) m.length c) m.length (flat m) w := by
        rw [hz1]
        exact Src.ofSlice w Tryz.underlying29 a m.length c (flat m) hl hc (flat_one m)
      have h2 := run_append_grow_src (P := Tryz.prog) w 29 29 ty 23 i0 _ Tryz.underlying29 hi hz0 (some ⟨g, 0, none⟩) l.length cap (flat l) hold (.slice (some a) m.length c) m.length (flat m) hsrc (by omega) (by omega) (growslice_fits (by omega) (by rw [hz2]; omega))
      rw [h2] at hrun
      injection hrun with e1 e2
      subst e1 e2
      refine ⟨_, _, _, by rw [List.length_append]; exact h2, ?_, ?_, ?_⟩
      · unfold Own; rw [List.length_append, flat_append]; exact hown'
      · exact World.ownsRow.alloc (show w.drew.ownsRow base 23 2 _ _ _ from own) _
      · exact (Below.refl base w).drew.alloc hbase _

/-- One append of a region, by what it does. -/
theorem step_app {P : Program} {ops : Array Oper} {rest : List Oper} {o : Oper} {a : Act} {w : World} {Q : Exit → Act → World → Prop} (hw : Region.wanted o (yielded ops a.tmps) = true) (s x : Operand) (t1 t2 : TypeId)
    (ho : o.op = .call { callee := .builtin .append, args := #[s, x], argTypes := #[t1, t2] }) (V X : Value) (hs : a.eval s = V) (hx : a.eval x = X) (v' : Value) (w' : World)
    (hrun : (Builtin.append_ #[t1, t2] o.type #[V, X]).run P w = .ok v' w') (h : wpList P ops Q rest (a.put o.dst v') w') : wpList P ops Q (o :: rest) a w := by
  refine wpList_step fun K hK => ?_
  rw [if_pos hw]
  unfold Oper.wp
  simp [execOp, ho, resolve, invoke, builtin, hs, hx, hrun, Result.andThen]
  exact hK _ _ h
end Go.Proofs.YtbonamhinnhlnaaGreatDoor
namespace Go.Proofs.YtbonamhinnhlnaaGreatDoor
open Go.RowKit
set_option linter.unusedSimpArgs false
set_option linter.unusedVariables false
set_option maxRecDepth 20000

/-- What is asked for, of its kinds. -/
structure FitB (b : Bs) : Prop where
  ad0 : 0 ≤ b.ad
  ad1 : b.ad < 65536
  v0 : 0 ≤ b.v
  v1 : b.v < 256
theorem fit_read {s : Wk} (n : Int) (x y z : Bool) (h0 : 0 ≤ n) (h1 : n < 65536) : FitB ⟨n, x, 0, y, z⟩ := ⟨h0, h1, Int.le_refl 0, Int.lt_of_sub_pos (by decide : (0 : Int) < 256 - 0)⟩
theorem fit_vec (i : Int) : 0 ≤ vecV i ∧ vecV i < 65535 := by unfold vecV; split <;> (try split) <;> omega
theorem pushV_le (p : Int) (k : Bool) (h0 : 0 ≤ p) (h1 : p < 256) : 0 ≤ pushV p k ∧ pushV p k < 256 := by
  unfold pushV clr
  cases k <;> simp only [if_true, if_false, Bool.false_eq_true] <;> omega
theorem fit_push {s : Wk} (F : Fiw s) (v : Int) (b : Bool) (g : 0 ≤ v ∧ v < 256) : FitB (pushB s v b) := by
  have h0 := F.f.s0
  have h1 := F.f.s1
  unfold pushB atStack
  split
  · exact fit_read (s := s) _ _ _ _ (by omega) (by omega)
  · exact ⟨by show 0 ≤ s.sv + 256 * 1; omega, by show s.sv + 256 * 1 < 65536; omega, g.1, g.2⟩
theorem fit_put {s : Wk} (F : Fiw s) (v : Int) (b : Bool) (g : 0 ≤ v ∧ v < 256) : FitB (putB s v b) := ⟨F.f.ad0, F.f.ad1, g.1, g.2⟩
theorem fit_with {s : Wk} (F : Fiw s) (v : Int) (b : Bool) (g : 0 ≤ v ∧ v < 256) : FitB (putWith s v b) := by
  have h0 := F.f.ad0
  have h1 := F.f.ad1
  have e1 := bothV_le v ((s.ad / 256 + 1) % 256) g.1 g.2 (by omega) (by omega)
  have e2 := bothV_le v (s.ad / 256) g.1 g.2 (by omega) (by omega)
  unfold putWith
  split
  · exact ⟨h0, h1, e1.1, e1.2⟩
  · refine ⟨?_, ?_, e2.1, e2.2⟩
    · show 0 ≤ s.ad % 256 + 256 * bothV v (s.ad / 256)
      omega
    · show s.ad % 256 + 256 * bothV v (s.ad / 256) < 65536
      omega
theorem fit_stores {s : Wk} (F : Fiw s) : ∀ e ∈ storesL, FitB (e.2 s).2 := by
  intro e he
  have g := bothV_le _ _ F.f.a0 F.f.a1 F.f.x0 F.f.x1
  simp only [storesL, List.mem_cons, List.not_mem_nil, or_false] at he
  rcases he with rfl | rfl | rfl | rfl | rfl | rfl | rfl | rfl
  · exact fit_put F _ _ ⟨F.f.a0, F.f.a1⟩
  · exact fit_put F _ _ ⟨F.f.x0, F.f.x1⟩
  · exact fit_put F _ _ ⟨F.f.y0, F.f.y1⟩
  · exact fit_put F _ _ g
  · exact fit_with F _ _ g
  · exact fit_with F _ _ ⟨F.f.x0, F.f.x1⟩
  · exact fit_with F _ _ ⟨F.f.y0, F.f.y1⟩
  · exact fit_with F _ _ g
theorem fit_ask (k : AskI) {s : Wk} (F : Fiw s) : FitB (askM k s) := by
  have h := F.f
  cases k with
  | pc => exact fit_read (s := s) _ _ _ _ h.pc0 h.pc1
  | addr => exact fit_read (s := s) _ _ _ _ h.ad0 h.ad1
  | stack =>
    have h0 := h.s0
    have h1 := h.s1
    exact fit_read (s := s) _ _ _ _ (by omega) (by omega)
  | vec => exact fit_read (s := s) _ _ _ _ (fit_vec _).1 (by have := (fit_vec s.intr).2; omega)
  | vec1 => exact fit_read (s := s) _ _ _ _ (by omega) (by omega)
  | fin => exact fit_read (s := s) _ _ _ _ (by decide) (by decide)
  | high =>
    have h0 := h.pc0
    have h1 := h.pc1
    exact fit_push F _ _ ⟨by omega, by omega⟩
  | low => exact fit_push F _ _ ⟨by omega, by omega⟩
  | flags => exact fit_push F _ _ (pushV_le _ _ h.p0 h.p1)
  | one =>
    show FitB (if nmEq s.nm (S3 80 72 80) then pushB s (pushV s.p true) (hasV s.ps 207) else pushB s s.av s.ab)
    split
    · exact fit_push F _ _ (pushV_le _ _ h.p0 h.p1)
    · exact fit_push F _ _ ⟨h.a0, h.a1⟩
  | data => exact fit_put F _ _ ⟨h.d0, h.d1⟩
  | stored => exact byName_all storesL s.nm _ (fun f => FitB (f s).2) (fit_read (s := s) _ _ _ _ h.ad0 h.ad1) (fit_stores F)
  | changed => exact fit_put F _ _ (Fit.changeM F s.dv s.db ⟨h.d0, h.d1⟩).2
/-- A cell of memory. -/
def okM (l : List (Int × Bool)) : Prop := ∀ x ∈ l, 0 ≤ x.1 ∧ x.1 < 256
theorem okM_nth {l : List (Int × Bool)} (h : okM l) {k : Nat} (hk : k < l.length) : 0 ≤ (nth l k).1 ∧ (nth l k).1 < 256 := by
  unfold nth
  have := h l[k] (List.getElem_mem hk)
  rw [List.getD_eq_getElem?_getD, List.getElem?_eq_getElem hk]
  exact this
theorem okM_set {l : List (Int × Bool)} (h : okM l) (k : Nat) {v : Int} (b : Bool) (v0 : 0 ≤ v) (v1 : v < 256) : okM (l.set k (v, b)) := fun x hx => by
  rcases List.mem_or_eq_of_mem_set hx with hx | rfl
  · exact h x hx
  · exact ⟨v0, v1⟩
/-- What a cycle reaches of memory, what memory is behind its write, and what the cycle is told. -/
def atM (c : Cp) (l : List (Int × Bool)) : Nat := ((askedM c).ad % (l.length : Int)).toNat
def wroteM (c : Cp) (l : List (Int × Bool)) : List (Int × Bool) := if (askedM c).wr then l.set (atM c l) ((askedM c).v, (askedM c).vb) else l
def gotM (c : Cp) (l : List (Int × Bool)) : Int × Bool := nth (wroteM c l) (atM c l)
def nextM (c : Cp) (l : List (Int × Bool)) (i n r : Bool) : Cp := takeM c (gotM c l).1 (gotM c l).2 i n r
def toldM (c : Cp) (l : List (Int × Bool)) : Bs := (askedM c).uV (gotM c l).1 (gotM c l).2
theorem atM_lt (c : Cp) {l : List (Int × Bool)} (hne : 0 < l.length) : atM c l < l.length := by
  have h1 := Int.emod_lt_of_pos (askedM c).ad (show (0 : Int) < l.length by omega)
  have h0 := Int.emod_nonneg (askedM c).ad (show (l.length : Int) ≠ 0 by omega)
  unfold atM
  omega
theorem wroteM_len (c : Cp) (l : List (Int × Bool)) : (wroteM c l).length = l.length := by
  unfold wroteM
  split
  · exact List.length_set
  · rfl
theorem asked_fit {c : Cp} (F : Fit c) : FitB (askedM c) := fit_ask _ (Fit.turn (Fit.empty F (by decide) (by decide)))
theorem okM_wrote {c : Cp} (F : Fit c) {l : List (Int × Bool)} (h : okM l) : okM (wroteM c l) := by
  unfold wroteM
  split
  · exact okM_set h _ _ (asked_fit F).v0 (asked_fit F).v1
  · exact h
theorem got_fit {c : Cp} (F : Fit c) {l : List (Int × Bool)} (h : okM l) (hne : 0 < l.length) : 0 ≤ (gotM c l).1 ∧ (gotM c l).1 < 256 := okM_nth (okM_wrote F h) (by rw [wroteM_len]; exact atM_lt c hne)
end Go.Proofs.YtbonamhinnhlnaaGreatDoor
namespace Go.Proofs.YtbonamhinnhlnaaGreatDoor
open Go.RowKit
set_option linter.unusedSimpArgs false
set_option linter.unusedVariables false

theorem next_ok {c : Cp} {l : List (Int × Bool)} (i n r : Bool) (F : Fit c) (ok : okB c = true) (om : okM l) (hne : 0 < l.length) : okB (nextM c l i n r) = true ∧ Fit (nextM c l i n r) := by
  have g := got_fit F om hne
  have h := take_ok c (gotM c l).1 (gotM c l).2 i n r F ok g.1 g.2
  exact ⟨h.1, h.2.1⟩
end Go.Proofs.YtbonamhinnhlnaaGreatDoor
namespace Go.Proofs.YtbonamhinnhlnaaGreatDoor
open Go.RowKit
set_option linter.unusedSimpArgs false
set_option linter.unusedVariables false
set_option maxRecDepth 20000

def Cp.setB (c : Cp) (off : Nat) (b : Bool) : Option Cp := match off with
  | 1 => some { c with ab := b }
  | 3 => some { c with xb := b }
  | 5 => some { c with yb := b }
  | 7 => some { c with sb := b }
  | 11 => some { c with pcs := b }
  | 15 => some { c with ads := b }
  | 17 => some { c with db := b }
  | 18 => some { c with cr := b }
  | 20 => some { c with nmi := b }
  | 21 => some { c with got := b }
  | 23 => some { c with ctl := b }
  | 24 => some { c with jam := b }
  | _ => none
def Cp.setI (c : Cp) (off : Nat) (k : IntKind) (n : Int) : Option Cp := match off, k with
  | 0, .u8 => some { c with av := n }
  | 2, .u8 => some { c with xv := n }
  | 4, .u8 => some { c with yv := n }
  | 6, .u8 => some { c with sv := n }
  | 8, .u8 => some { c with p := n }
  | 9, .u8 => some { c with ps := n }
  | 10, .u16 => some { c with pc := n }
  | 12, .u8 => some { c with op := n }
  | 13, .i64 => some { c with t := n }
  | 14, .u16 => some { c with ad := n }
  | 16, .u8 => some { c with dv := n }
  | 19, .i64 => some { c with intr := n }
  | 22, .i64 => some { c with pend := n }
  | _, _ => none
attribute [local irreducible] wpList
end Go.Proofs.YtbonamhinnhlnaaGreatDoor
