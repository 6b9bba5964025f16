/-
  Several texts in one: what is read and written by the functions on the way to the statements. Conditions stand in each theorem.
-/
import Derived.Test.YtopmlmpadkdhjaaGreatDoorZ36
import Derived.Test.YtopmlmpadkdhjaaGreatDoorZ07
import Derived.Test.YtopmlmpadkdhjaaGreatDoorZ02
import Derived.ChangeKeysEq
namespace Go.Proofs.YtopmlmpadkdhjaaGreatDoor
open Go.RowKit
set_option linter.unusedSimpArgs false
set_option linter.unusedVariables false
set_option maxRecDepth 20000

theorem fit_of {c : Cp} (O : Oct c) (h : okB c = true) : Fit c := by
  obtain ⟨_, _, _, h7, h8⟩ := (okB_iff _).1 h
  exact ⟨O.a0, O.a1, O.x0, O.x1, O.y0, O.y1, O.s0, O.s1, O.p0, O.p1, O.q0, O.q1, h7, h8, O.pc0, O.pc1, O.op0, O.op1, O.ad0, O.ad1, O.d0, O.d1⟩
/-- The processor behind k cycles. -/
def stM (c : Cp) (l : List Ka) : Nat → Cp
  | 0 => c
  | k + 1 => takeM (stM c l k) (kaN l k).v (kaN l k).b (kaN l k).i (kaN l k).n (kaN l k).r
theorem stM_ok {c : Cp} {l : List Ka} (F : Fit c) (h : okB c = true) (hb : ∀ k, k < l.length → 0 ≤ (kaN l k).v ∧ (kaN l k).v < 256) : ∀ k, k ≤ l.length → okB (stM c l k) = true ∧ Fit (stM c l k)
  | 0, _ => ⟨h, F⟩
  | k + 1, hk => by
    obtain ⟨h1, F1⟩ := stM_ok F h hb k (by omega)
    obtain ⟨b0, b1⟩ := hb k (by omega)
    have := take_ok (stM c l k) (kaN l k).v (kaN l k).b (kaN l k).i (kaN l k).n (kaN l k).r F1 h1 b0 b1
    exact ⟨this.1, this.2.1⟩
theorem set_ctl {p : Cp} {b : Bool} (h : p.ctl = b) : ∃ p2 : Cp, p = { p2 with ctl := b } := ⟨p, by subst h; rfl⟩
theorem run_alloc_cpu (o : Oper) (h : o.op = .alloc 28) (ρ : Operand → Value) (w : World) : (execOp ρ o).run Tryz.prog w = .ok (.value (ptrTo w.heap.size)) (w.alloc (.cells (cpC cp0) 28)) := by
  unfold execOp
  simp only [h, Sem.run_bind, alloc_cpu w, Result.andThen_ok, Sem.run_pure]
  rfl
attribute [local irreducible] wpList
set_option maxHeartbeats 8000000 in
theorem kstays_walk (c : Cp) (l : List Ka) (sv : Value) (W : World) (G : GlobO W) (O : Oct c) (Rl : Ra W sv l) (hb : ∀ k, k < l.length → 0 ≤ (kaN l k).v ∧ (kaN l k).v < 256) : Calls Tryz.prog 3 #[.agg (cpC c), sv] W fun e w' => e = .returned (.bool true) ∧ Below W.heap.size W w' := by
  have QC := Lib.hid (fun wr (g : GlobO wr) => kcheck_ct c wr g O.p0 O.p1 O.q0 O.q1 O.op0 O.op1)
  have QW := Lib.hid (fun wr (g : GlobO wr) => kawake_ct wr g)
  have GG := Lib.hid G
  have HO := Lib.hid O
  have HR := Lib.hid Rl
  have HB := Lib.hid hb
  obtain ⟨a0, cap, rfl, hcap, hm, _⟩ := Rl
  obtain ⟨n, hn⟩ : ∃ n, l.length = n := ⟨_, rfl⟩
  have HN := Lib.hid hn
  rw [hn] at hcap ⊢
  clear G O hb hn
  have H := Mem.start W
  cases hok : okB c
  case false =>
    rw [hok] at QC
    have M1 : True := trivial
    go_enter Tryz.func3, Tryz.ntmps3
    go_wp2_with (first | (clear M1; refine wpList_mboxA rfl _ _ rfl H _ rfl ?_; clear H; intro Rc w1 _ H) | (refine gate_load _ _ rfl ?_; refine wpList_mloadA rfl 28 _ rfl _ rfl 0 H (cpC _) rfl (by decide +kernel) (by kernel_rfl) ?_) | (go_at_call 9; (with_reducible refine (QC.out _ (GG.out.mem H)).mono ?_); rintro e w2 ⟨rfl, hB⟩; replace H := H.next hB; clear hB) | (go_at_call 10; (with_reducible refine (QW.out _ (GG.out.mem H)).mono ?_); rintro e w2 ⟨rfl, hB⟩; replace H := H.next hB; clear hB) | fail)
    go_ret
    exact ⟨rfl, H.toBelow⟩
  case true =>
    rw [hok] at QC
    rw [show errI true = 0 from rfl] at QC
    have F := fit_of HO.out hok
    have HS := Lib.hid (stM_ok F hok HB.out)
    clear F hok
    have M1 : True := trivial
    go_enter Tryz.func3, Tryz.ntmps3
    go_wp2_with (first | (clear M1; refine wpList_mboxA rfl _ _ rfl H _ rfl ?_; clear H; intro Rc w1 _ H) | (refine gate_load _ _ rfl ?_; refine wpList_mloadA rfl 28 _ rfl _ rfl 0 H (cpC _) rfl (by decide +kernel) (by kernel_rfl) ?_) | (go_at_call 9; (with_reducible refine (QC.out _ (GG.out.mem H)).mono ?_); rintro e w2 ⟨rfl, hB⟩; replace H := H.next hB; clear hB) | fail)
    go_loopw [5] (fun i wr => ∃ k : Nat, k ≤ n ∧ k ≤ 60 ∧ i = .int .i64 (k : Int) ∧ Mem W.heap.size [] W wr [(Rc, cpC (stM c l k))]) (fun i _ => 61 - (intOf i).toNat)
    case atStart => exact ⟨0, by omega, by omega, rfl, H⟩
    case round =>
      clear H
      obtain ⟨k, hk, hk6, rfl, H⟩ := hrel
      have WK : wrap64 ((k : Int) + 1) = (k : Int) + 1 := w64 _ (by omega) (by omega)
      by_cases hlt : k < n
      · by_cases hl6 : k < 60
        · have hc1 : decide ((k : Int) < (n : Int)) = true := decide_eq_true (by omega)
          have hc2 : decide ((k : Int) < 60) = true := decide_eq_true (by omega)
          have hkl : k < l.length := by rw [HN.out]; exact hlt
          obtain ⟨b, off, cap2, ev, _, _, hbl, hcl⟩ := HR.out.row k hkl
          injection ev with ea en ec
          subst ea
          subst ec
          clear en
          obtain ⟨cb, cl⟩ := hcl k hkl
          have CB := Lib.hid cb
          have CL := Lib.hid cl
          obtain ⟨ok1, F1⟩ := HS.out k (by omega)
          obtain ⟨ok2, F2⟩ := HS.out (k + 1) (by omega)
          obtain ⟨b0, b1⟩ := HB.out k hkl
          obtain ⟨ok3, F3, c3⟩ := wait_ok (stM c l k) (kaN l k).i (kaN l k).n (kaN l k).r F1 ok1
          have c2 := (take_ok (stM c l k) (kaN l k).v (kaN l k).b (kaN l k).i (kaN l k).n (kaN l k).r F1 ok1 b0 b1).2.2
          have QT := Lib.hid (fun wr (g : GlobO wr) => take_ct (stM c l k) (kaN l k).v (kaN l k).b (kaN l k).i (kaN l k).n (kaN l k).r F1 ok1 b0 b1 wr g)
          have QU := Lib.hid (fun wr (g : GlobO wr) => kwait_ct (stM c l k) (kaN l k).i (kaN l k).n (kaN l k).r F1 ok1 wr g)
          have e9 : takeM (stM c l k) (kaN l k).v (kaN l k).b (kaN l k).i (kaN l k).n (kaN l k).r = stM c l (k + 1) := rfl
          rw [e9] at QT c2
          clear e9 cb cl hcl b0 b1
          generalize kaN l k = x at *
          generalize waitM (stM c l k) x.i x.n x.r = u at *
          generalize hq9 : stM c l (k + 1) = q at *
          generalize stM c l k = p at *
          have HQ9 := Lib.hid hq9
          clear hq9
          have QN := Lib.hid (fun wr (g : GlobO wr) => (show Calls Tryz.prog 9 #[.agg (cpC q)] wr fun e w' => e = .returned (.int .i64 0) ∧ Below wr.heap.size wr w' from by have := kcheck_ct q wr g F2.p0 F2.p1 F2.q0 F2.q1 F2.op0 F2.op1; rw [ok2] at this; exact this))
          have QV := Lib.hid (fun wr (g : GlobO wr) => (show Calls Tryz.prog 9 #[.agg (cpC u)] wr fun e w' => e = .returned (.int .i64 0) ∧ Below wr.heap.size wr w' from by have := kcheck_ct u wr g F3.p0 F3.p1 F3.q0 F3.q1 F3.op0 F3.op1; rw [ok3] at this; exact this))
          clear F1 F2 F3 ok1 ok2 ok3
          cases hpc : p.ctl
          case' true =>
            have K2 := Lib.hid (show (cpC q)[23]? = some (.bool true) by show some (Value.bool q.ctl) = _; rw [c2 hpc])
            have K3 := Lib.hid (show (cpC u)[23]? = some (.bool true) by show some (Value.bool u.ctl) = _; rw [c3 hpc])
          case' false =>
            have K2 : True := trivial
            have K3 : True := trivial
          all_goals
            obtain ⟨p2, hp2⟩ := set_ctl hpc
            subst hp2
            clear c2 c3 hpc
            go_wp2_with (first | fail | fail)
            (refine wp_region_mem 81 [⟨15, 16, 99, ptrTo, cpC cp0, cpC q, undef⟩] (by kernel_rfl) (by kernel_rfl) (by rfl) (by kernel_rfl) (fun _ => by kernel_rfl) (by simp) H fun β wy hwy => ?_); have H0 := H; replace H := H.next hwy; (simp only [swapL, swapO, List.find?_cons, List.find?_nil, Nat.reduceBEq, Nat.reduceAdd]); (repeat (first | (go_big_quiet_want; refine gate_qload _ _ rfl ?_; refine quiet_xload 23 _ rfl _ _ rfl H #[.int .u8 _, .bool _] CB.out hbl (by decide +kernel) (by kernel_rfl) ?_; simp only [Act.put, List.setIfInBounds_toArray, List.set_cons_succ, List.set_cons_zero]; go_big_quiet_on) | (go_big_quiet_want; refine gate_qload _ _ rfl ?_; refine quiet_xload 36 _ rfl _ _ rfl H #[.bool _, .bool _, .bool _] CL.out hbl (by decide +kernel) (by kernel_rfl) ?_; simp only [Act.put, List.setIfInBounds_toArray, List.set_cons_succ, List.set_cons_zero]; go_big_quiet_on) | (go_big_quiet_want; refine gate_qload _ _ rfl ?_; refine quiet_mloadA 28 _ rfl _ rfl 0 H (cpC _) rfl (by decide +kernel) (by kernel_rfl) ?_; simp only [Act.put, List.setIfInBounds_toArray, List.set_cons_succ, List.set_cons_zero]; go_big_quiet_on) | go_big_quiet_step ((first | (go_at_call 11; (with_reducible exact Calls.regrown_of (QT.out _ (GG.out.mem (H.next (below_regrown _ _ _)))))) | fail)))); (refine wpQuiet_nil ?_); (refine ⟨⟨⟨⟨_, run_alloc_cpu _ rfl _⟩, ⟨rfl, by kernel_rfl, rfl, by kernel_rfl, fun _ => rfl⟩, trivial⟩, trivial⟩, fun wx HM => ?_⟩); clear H; have H := HM; clear HM H0 hwy; (dsimp only [boxesL, List.cons_append, List.nil_append] at H); (try dsimp only [ptrTo]); (try generalize hq0 : β 15 = q0 at *)
            go_wp2_with (first | fail | fail)
            (refine wp_region_mem 81 [⟨10, 11, 99, ptrTo, cpC cp0, cpC u, undef⟩] (by kernel_rfl) (by kernel_rfl) (by rfl) (by kernel_rfl) (fun _ => by kernel_rfl) (by simp) H fun β wy hwy => ?_); have H0 := H; replace H := H.next hwy; (simp only [swapL, swapO, List.find?_cons, List.find?_nil, Nat.reduceBEq, Nat.reduceAdd]); (repeat (first | (go_big_quiet_want; refine gate_qload _ _ rfl ?_; refine quiet_xload 36 _ rfl _ _ rfl H #[.bool _, .bool _, .bool _] CL.out hbl (by decide +kernel) (by kernel_rfl) ?_; simp only [Act.put, List.setIfInBounds_toArray, List.set_cons_succ, List.set_cons_zero]; go_big_quiet_on) | (go_big_quiet_want; refine gate_qload _ _ rfl ?_; refine quiet_mloadA 28 _ rfl _ rfl 1 H (cpC _) rfl (by decide +kernel) (by kernel_rfl) ?_; simp only [Act.put, List.setIfInBounds_toArray, List.set_cons_succ, List.set_cons_zero]; go_big_quiet_on) | go_big_quiet_step ((first | (go_at_call 12; (with_reducible exact Calls.regrown_of (QU.out _ (GG.out.mem (H.next (below_regrown _ _ _)))))) | fail)))); (refine wpQuiet_nil ?_); (refine ⟨⟨⟨⟨_, run_alloc_cpu _ rfl _⟩, ⟨rfl, by kernel_rfl, rfl, by kernel_rfl, fun _ => rfl⟩, trivial⟩, trivial⟩, fun wx HM => ?_⟩); clear H; have H := HM; clear HM H0 hwy; (dsimp only [boxesL, List.cons_append, List.nil_append] at H); (try dsimp only [ptrTo]); (try generalize hq0 : β 10 = q0 at *)
            go_wp2_with (first | (refine gate_load _ _ rfl ?_; refine wpList_mloadA rfl 28 _ rfl _ rfl 1 H (cpC _) rfl (by decide +kernel) (by kernel_rfl) ?_) | (refine gate_load _ _ rfl ?_; refine wpList_mloadA rfl 28 _ rfl _ rfl 0 H (cpC _) rfl (by decide +kernel) (by kernel_rfl) ?_) | (go_at_call 9; (with_reducible refine (QN.out _ (GG.out.mem H)).mono ?_); rintro e w2 ⟨rfl, hB⟩; replace H := H.next hB; clear hB) | (go_at_call 9; (with_reducible refine (QV.out _ (GG.out.mem H)).mono ?_); rintro e w2 ⟨rfl, hB⟩; replace H := H.next hB; clear hB) | (refine gate_load _ _ rfl ?_; refine wpList_mload1 rfl _ _ rfl _ _ rfl 2 H _ (.bool _) rfl rfl (by decide +kernel) ?_) | (refine gate_load _ _ rfl ?_; refine wpList_mload1 rfl _ _ rfl _ _ rfl 1 H _ (.bool true) rfl (by exact K2.out) (by decide +kernel) ?_) | (refine gate_load _ _ rfl ?_; refine wpList_mload1 rfl _ _ rfl _ _ rfl 0 H _ (.bool true) rfl (by exact K3.out) (by decide +kernel) ?_) | (refine gate_store _ _ _ rfl ?_; refine wpList_mstoreA rfl 28 _ _ rfl rfl _ rfl 2 H (cpC _) _ rfl rfl (by kernel_rfl) (by kernel_rfl) (by kernel_rfl) ?_; clear H; intro w1 H; simp only [List.set_cons_zero, List.set_cons_succ] at H) | fail)
            go_roundw
            case rel => exact ⟨k + 1, by omega, by omega, by go_num, by rw [HQ9.out]; exact H.sub (List.Sublist.cons _ (List.Sublist.cons _ (List.Sublist.refl _)))⟩
            case measure => simp [intOf]; omega
        · have hc1 : decide ((k : Int) < (n : Int)) = true := decide_eq_true (by omega)
          have hc2 : decide ((k : Int) < 60) = false := decide_eq_false (by omega)
          go_wp2_with (first | (go_at_call 10; (with_reducible refine (QW.out _ (GG.out.mem H)).mono ?_); rintro e w2 ⟨rfl, hB⟩; replace H := H.next hB; clear hB) | fail)
          go_ret
          exact ⟨rfl, H.toBelow⟩
      · have hc1 : decide ((k : Int) < (n : Int)) = false := decide_eq_false (by omega)
        go_wp2_with (first | (go_at_call 10; (with_reducible refine (QW.out _ (GG.out.mem H)).mono ?_); rintro e w2 ⟨rfl, hB⟩; replace H := H.next hB; clear hB) | fail)
        go_ret
        exact ⟨rfl, H.toBelow⟩
end Go.Proofs.YtopmlmpadkdhjaaGreatDoor
namespace Go.Proofs.YtopmlmpadkdhjaaGreatDoor
open Go.RowKit Go.Sort
set_option linter.unusedSimpArgs false
set_option linter.unusedVariables false

theorem by_eqi (a : Int) (b : Bool) (n : Nat) (w : World) : (Op.equalIn (n + 2) 23 (.agg #[.int .u8 a, .bool b]) (.agg #[.int .u8 a, .bool b])).run Tryz.prog w = .ok true w := by
  have u3 := Tryz.underlying5
  have a3 := Tryz.isAgg5
  have z3 := Tryz.sizeOf5
  have u4 := Tryz.underlying4
  rw [run_equalIn_struct w (n + 1) 23 _ _ (by kernel_rfl) (by kernel_rfl)]
  simp only [Program.fieldsOf, Tryz.underlying23, Op.eqFields]
  go_simp
theorem fl_eqi (a b : Int) (n : Nat) (w : World) : (Op.equalIn (n + 2) 25 (.agg #[.int .u8 a, .int .u8 b]) (.agg #[.int .u8 a, .int .u8 b])).run Tryz.prog w = .ok true w := by
  have u3 := Tryz.underlying5
  have a3 := Tryz.isAgg5
  have z3 := Tryz.sizeOf5
  rw [run_equalIn_struct w (n + 1) 25 _ _ (by kernel_rfl) (by kernel_rfl)]
  simp only [Program.fieldsOf, Tryz.underlying25, Op.eqFields]
  go_simp
set_option maxRecDepth 100000 in
set_option maxHeartbeats 4000000 in
theorem cp_eqi (c : Cp) (w : World) : (Op.equalIn 10000 28 (.agg (cpC c)) (.agg (cpC c))).run Tryz.prog w = .ok true w := by
  have ha := by_eqi c.av c.ab 9997
  have hx := by_eqi c.xv c.xb 9997
  have hy := by_eqi c.yv c.yb 9997
  have hs := by_eqi c.sv c.sb 9997
  have hd := by_eqi c.dv c.db 9997
  have hf := fl_eqi c.p c.ps 9997
  simp only [Nat.reduceAdd] at ha hx hy hs hd hf
  have u3 := Tryz.underlying5
  have a3 := Tryz.isAgg5
  have z3 := Tryz.sizeOf5
  have u1 := Tryz.underlying3
  have u2 := Tryz.underlying26
  have u4 := Tryz.underlying4
  have u5 := Tryz.underlying23
  have a5 := Tryz.isAgg23
  have z5 := Tryz.sizeOf23
  have u6 := Tryz.underlying25
  have a6 := Tryz.isAgg25
  have z6 := Tryz.sizeOf25
  rw [show (10000 : Nat) = 9999 + 1 from rfl, run_equalIn_struct w 9999 28 _ _ (by kernel_rfl) (by kernel_rfl)]
  simp only [Program.fieldsOf, Tryz.underlying28]
  unfold cpC
  simp only [Op.eqFields]
  go_simp
theorem cp_neq (c : Cp) (w : World) : (binOp .neq 28 (.agg (cpC c)) (.agg (cpC c))).run Tryz.prog w = .ok (.bool false) w := by
  rw [run_neq_struct, cp_eqi]; rfl
theorem cp_neqG (c : Cp) (x y : Operand) (w : World) : (do eqGuard .neq 28 x y (.agg (cpC c)) (.agg (cpC c)); binOp .neq 28 (.agg (cpC c)) (.agg (cpC c)) : Sem Value).run Tryz.prog w = .ok (.bool false) w := by
  have e := run_eqGuard_agg (P := Tryz.prog) (w := w) .neq 28 x y (cpC c) (cpC c) (by kernel_rfl)
  simp only [Sem.run_bind, e, Result.andThen_ok, cp_neq]
theorem quiet_mbin {P : Program} {o : Oper} {a : Act} {C : World → Prop} {K : Act → Prop} (b : BinOp) (T : TypeId) (x y : Operand) (T2 : TypeId) (ho : o.op = .binOp b T x y T2) (v u r : Value) (hx : a.eval x = v) (hy : a.eval y = u)
    (hr : ∀ w : World, (do eqGuard b T x y v u; binOp b T v u : Sem Value).run P w = .ok r w) (h : K (a.put o.dst r)) : o.quiet P a C K :=
  ⟨r, fun w' hw' => by
    unfold Oper.quietAt execOp
    simp only [ho, hx, hy]
    rw [Sem.run_bind, hr]
    exact ⟨rfl, rfl⟩, h⟩
theorem gate_qbin {P : Program} {o : Oper} {a : Act} {C : World → Prop} {K : Act → Prop} (b : BinOp) (T : TypeId) (x y : Operand) (T2 : TypeId) (_ : o.op = .binOp b T x y T2) (h : o.quiet P a C K) : o.quiet P a C K := h
end Go.Proofs.YtopmlmpadkdhjaaGreatDoor
namespace Go.Proofs.YtopmlmpadkdhjaaGreatDoor
open Go.RowKit
set_option linter.unusedSimpArgs false
set_option linter.unusedVariables false
set_option maxRecDepth 20000

attribute [local irreducible] wpList
set_option maxHeartbeats 8000000 in
theorem kerased_walk (c : Cp) (l : List Ka) (sv : Value) (W : World) (G : GlobO W) (O : Oct c) (Rl : Ra W sv l) (hb : ∀ k, k < l.length → 0 ≤ (kaN l k).v ∧ (kaN l k).v < 256) : Calls Tryz.prog 4 #[.agg (cpC c), sv] W fun e w' => e = .returned (.bool true) ∧ Below W.heap.size W w' := by
  have QC := Lib.hid (fun wr (g : GlobO wr) => kcheck_ct c wr g O.p0 O.p1 O.q0 O.q1 O.op0 O.op1)
  have QW := Lib.hid (fun wr (g : GlobO wr) => kawake_ct wr g)
  have HZC := Lib.hid alloc_cpu
  have GG := Lib.hid G
  have HO := Lib.hid O
  have HR := Lib.hid Rl
  have HB := Lib.hid hb
  obtain ⟨a0, cap, rfl, hcap, hm, _⟩ := Rl
  obtain ⟨n, hn⟩ : ∃ n, l.length = n := ⟨_, rfl⟩
  have HN := Lib.hid hn
  rw [hn] at hcap ⊢
  clear G O hb hn
  have H := Mem.start W
  cases hok : okB c
  case false =>
    rw [hok] at QC
    have M1 : True := trivial
    go_enter Tryz.func4, Tryz.ntmps4
    go_wp2_with (first | (clear M1; refine wpList_mboxA rfl _ _ rfl H _ rfl ?_; clear H; intro Rc w1 _ H) | (refine gate_load _ _ rfl ?_; refine wpList_mloadA rfl 28 _ rfl _ rfl 0 H (cpC _) rfl (by decide +kernel) (by kernel_rfl) ?_) | (go_at_call 9; (with_reducible refine (QC.out _ (GG.out.mem H)).mono ?_); rintro e w2 ⟨rfl, hB⟩; replace H := H.next hB; clear hB) | (go_at_call 10; (with_reducible refine (QW.out _ (GG.out.mem H)).mono ?_); rintro e w2 ⟨rfl, hB⟩; replace H := H.next hB; clear hB) | fail)
    go_ret
    exact ⟨rfl, H.toBelow⟩
  case true =>
    rw [hok] at QC
    rw [show errI true = 0 from rfl] at QC
    have F := fit_of HO.out hok
    have HS := Lib.hid (stM_ok F hok HB.out)
    clear F hok
    have M1 : True := trivial
    have M2 : True := trivial
    go_enter Tryz.func4, Tryz.ntmps4
    go_wp2_with (first | (clear M1; refine wpList_mboxA rfl _ _ rfl H _ rfl ?_; clear H; intro Rc w1 _ H) | (refine gate_load _ _ rfl ?_; refine wpList_mloadA rfl 28 _ rfl _ rfl 0 H (cpC _) rfl (by decide +kernel) (by kernel_rfl) ?_) | (go_at_call 9; (with_reducible refine (QC.out _ (GG.out.mem H)).mono ?_); rintro e w2 ⟨rfl, hB⟩; replace H := H.next hB; clear hB) | (go_at_call 13; (with_reducible refine (kerase_ct _ _).mono ?_); rintro e w2 ⟨rfl, hB⟩; replace H := H.next hB; clear hB) | (clear M2; refine wpList_mnew rfl _ rfl H _ HZC.out ?_; clear H; intro Rd w1 _ H) | (refine gate_store _ _ _ rfl ?_; refine wpList_mstoreA rfl 28 _ _ rfl rfl _ rfl 0 H (cpC _) _ rfl rfl (by kernel_rfl) (by kernel_rfl) (by kernel_rfl) ?_; clear H; intro w1 H; simp only [List.set_cons_zero, List.set_cons_succ] at H) | fail)
    go_loopw [6] (fun i wr => ∃ k : Nat, k ≤ n ∧ k ≤ 60 ∧ i = .int .i64 (k : Int) ∧ Mem W.heap.size [] W wr [(Rd, cpC (eraseM (stM c l k))), (Rc, cpC (stM c l k))]) (fun i _ => 61 - (intOf i).toNat)
    case atStart => exact ⟨0, by omega, by omega, rfl, H⟩
    case round =>
      clear H
      obtain ⟨k, hk, hk6, rfl, H⟩ := hrel
      have WK : wrap64 ((k : Int) + 1) = (k : Int) + 1 := w64 _ (by omega) (by omega)
      by_cases hlt : k < n
      · by_cases hl6 : k < 60
        · have hc1 : decide ((k : Int) < (n : Int)) = true := decide_eq_true (by omega)
          have hc2 : decide ((k : Int) < 60) = true := decide_eq_true (by omega)
          have hkl : k < l.length := by rw [HN.out]; exact hlt
          obtain ⟨b, off, cap2, ev, _, _, hbl, hcl⟩ := HR.out.row k hkl
          injection ev with ea en ec
          subst ea
          subst ec
          clear en
          obtain ⟨cb, cl⟩ := hcl k hkl
          have CB := Lib.hid cb
          have CL := Lib.hid cl
          have C0 := Lib.hid (cb 0 _ rfl)
          obtain ⟨ok1, F1⟩ := HS.out k (by omega)
          obtain ⟨okE, FE⟩ := erase_ok (stM c l k) F1 ok1
          obtain ⟨b0, b1⟩ := HB.out k hkl
          have QT := Lib.hid (fun wr (g : GlobO wr) => take_ct (stM c l k) (kaN l k).v (kaN l k).b (kaN l k).i (kaN l k).n (kaN l k).r F1 ok1 b0 b1 wr g)
          have QE := Lib.hid (fun wr (g : GlobO wr) => take_ct (eraseM (stM c l k)) (kaN l k).v false (kaN l k).i (kaN l k).n (kaN l k).r FE okE b0 b1 wr g)
          have QA := Lib.hid (fun wr (g : GlobO wr) => kask_ct (stM c l k) F1 ok1 wr g)
          have QB := Lib.hid (fun wr (g : GlobO wr) => (show Calls Tryz.prog 14 #[.agg (cpC (eraseM (stM c l k)))] wr fun e w' => e = .returned (.agg (bsC ⟨(askedM (stM c l k)).ad, (askedM (stM c l k)).wr, (askedM (stM c l k)).v, false, false⟩)) ∧ Below wr.heap.size wr w' from by
            have := kask_ct (eraseM (stM c l k)) FE okE wr g
            rw [er_asked] at this
            exact this))
          have e9 : takeM (stM c l k) (kaN l k).v (kaN l k).b (kaN l k).i (kaN l k).n (kaN l k).r = stM c l (k + 1) := rfl
          rw [← er_take (stM c l k) (kaN l k).v (kaN l k).b] at QE
          rw [e9] at QT QE
          clear e9 cb cl hcl b0 b1 ok1 F1 okE FE
          generalize kaN l k = x at *
          generalize hq9 : stM c l (k + 1) = q at *
          generalize askedM (stM c l k) = ab at *
          generalize stM c l k = p at *
          have HQ9 := Lib.hid hq9
          clear hq9
          go_wp2_with (first | fail | fail)
          (refine wp_region_mem 110 [⟨4, 6, 99, ptrTo, bsC bs0, bsC ab, undef⟩, ⟨5, 7, 99, ptrTo, bsC bs0, bsC ⟨ab.ad, ab.wr, ab.v, false, false⟩, undef⟩] (by kernel_rfl) (by kernel_rfl) (by rfl) (by kernel_rfl) (fun _ => by kernel_rfl) (by simp) H fun β wy hwy => ?_); have H0 := H; replace H := H.next hwy; (simp only [swapL, swapO, List.find?_cons, List.find?_nil, Nat.reduceBEq, Nat.reduceAdd]); (repeat (first | (go_big_quiet_want; refine gate_qload _ _ rfl ?_; refine quiet_mloadA 28 _ rfl _ rfl 0 H (cpC _) rfl (by decide +kernel) (by kernel_rfl) ?_; simp only [Act.put, List.setIfInBounds_toArray, List.set_cons_succ, List.set_cons_zero]; go_big_quiet_on) | (go_big_quiet_want; refine gate_qload _ _ rfl ?_; refine quiet_mloadA 28 _ rfl _ rfl 1 H (cpC _) rfl (by decide +kernel) (by kernel_rfl) ?_; simp only [Act.put, List.setIfInBounds_toArray, List.set_cons_succ, List.set_cons_zero]; go_big_quiet_on) | go_big_quiet_step ((first | (go_at_call 14; (with_reducible exact Calls.regrown_of (QA.out _ (GG.out.mem (H.next (below_regrown _ _ _)))))) | (go_at_call 14; (with_reducible exact Calls.regrown_of (QB.out _ (GG.out.mem (H.next (below_regrown _ _ _)))))) | fail)))); (refine wpQuiet_nil ?_); (refine ⟨⟨⟨⟨_, run_alloc_bus _ rfl _⟩, ⟨rfl, by kernel_rfl, rfl, by kernel_rfl, fun _ => rfl⟩, trivial⟩, ⟨⟨_, run_alloc_bus _ rfl _⟩, ⟨rfl, by kernel_rfl, rfl, by kernel_rfl, fun _ => rfl⟩, trivial⟩, trivial⟩, fun wx HM => ?_⟩); clear H; have H := HM; clear HM H0 hwy; (dsimp only [boxesL, List.cons_append, List.nil_append] at H); (try dsimp only [ptrTo]); (try generalize hq0 : β 4 = q0 at *); (try generalize hq1 : β 5 = q1 at *)
          generalize hQa : q0 = Qa at *
          clear hQa
          generalize hQb : q1 = Qb at *
          clear hQb
          go_wp2_with (first | (refine gate_load _ _ rfl ?_; refine wpList_mload1 rfl _ _ rfl _ _ rfl 0 H _ (.int _ _) rfl rfl (by decide +kernel) ?_) | (refine gate_load _ _ rfl ?_; refine wpList_mload1 rfl _ _ rfl _ _ rfl 0 H _ (.bool _) rfl rfl (by decide +kernel) ?_) | (refine gate_load _ _ rfl ?_; refine wpList_mload1 rfl _ _ rfl _ _ rfl 1 H _ (.int _ _) rfl rfl (by decide +kernel) ?_) | (refine gate_load _ _ rfl ?_; refine wpList_mload1 rfl _ _ rfl _ _ rfl 1 H _ (.bool _) rfl rfl (by decide +kernel) ?_) | fail)
          (refine wp_region_mem 110 [⟨15, 16, 99, ptrTo, cpC cp0, cpC q, undef⟩] (by kernel_rfl) (by kernel_rfl) (by rfl) (by kernel_rfl) (fun _ => by kernel_rfl) (by simp) H fun β wy hwy => ?_); have H0 := H; replace H := H.next hwy; (simp only [swapL, swapO, List.find?_cons, List.find?_nil, Nat.reduceBEq, Nat.reduceAdd]); (repeat (first | (go_big_quiet_want; refine gate_qload _ _ rfl ?_; refine quiet_xload 23 _ rfl _ _ rfl H #[.int .u8 _, .bool _] CB.out hbl (by decide +kernel) (by kernel_rfl) ?_; simp only [Act.put, List.setIfInBounds_toArray, List.set_cons_succ, List.set_cons_zero]; go_big_quiet_on) | (go_big_quiet_want; refine gate_qload _ _ rfl ?_; refine quiet_xload 36 _ rfl _ _ rfl H #[.bool _, .bool _, .bool _] CL.out hbl (by decide +kernel) (by kernel_rfl) ?_; simp only [Act.put, List.setIfInBounds_toArray, List.set_cons_succ, List.set_cons_zero]; go_big_quiet_on) | (go_big_quiet_want; refine gate_qload _ _ rfl ?_; refine quiet_mloadA 28 _ rfl _ rfl 3 H (cpC _) rfl (by decide +kernel) (by kernel_rfl) ?_; simp only [Act.put, List.setIfInBounds_toArray, List.set_cons_succ, List.set_cons_zero]; go_big_quiet_on) | go_big_quiet_step ((first | (go_at_call 11; (with_reducible exact Calls.regrown_of (QT.out _ (GG.out.mem (H.next (below_regrown _ _ _)))))) | fail)))); (refine wpQuiet_nil ?_); (refine ⟨⟨⟨⟨_, run_alloc_cpu _ rfl _⟩, ⟨rfl, by kernel_rfl, rfl, by kernel_rfl, fun _ => rfl⟩, trivial⟩, trivial⟩, fun wx HM => ?_⟩); clear H; have H := HM; clear HM H0 hwy; (dsimp only [boxesL, List.cons_append, List.nil_append] at H); (try dsimp only [ptrTo]); (try generalize hq0 : β 15 = q0 at *)
          generalize hRm : q0 = Rm at *
          clear hRm
          go_wp2_with (first | fail | fail)
          (refine wp_region_mem 110 [⟨17, 18, 99, ptrTo, cpC cp0, cpC (eraseM q), undef⟩] (by kernel_rfl) (by kernel_rfl) (by rfl) (by kernel_rfl) (fun _ => by kernel_rfl) (by simp) H fun β wy hwy => ?_); have H0 := H; replace H := H.next hwy; (simp only [swapL, swapO, List.find?_cons, List.find?_nil, Nat.reduceBEq, Nat.reduceAdd]); (repeat (first | (go_big_quiet_want; refine gate_qload _ _ rfl ?_; refine quiet_xload 36 _ rfl _ _ rfl H #[.bool _, .bool _, .bool _] CL.out hbl (by decide +kernel) (by kernel_rfl) ?_; simp only [Act.put, List.setIfInBounds_toArray, List.set_cons_succ, List.set_cons_zero]; go_big_quiet_on) | (go_big_quiet_want; refine gate_qload _ _ rfl ?_; refine quiet_xload1 _ _ rfl _ _ rfl H (.int .u8 _) C0.out hbl (by decide +kernel) ?_; simp only [Act.put, List.setIfInBounds_toArray, List.set_cons_succ, List.set_cons_zero]; go_big_quiet_on) | (go_big_quiet_want; refine gate_qload _ _ rfl ?_; refine quiet_mloadA 28 _ rfl _ rfl 3 H (cpC _) rfl (by decide +kernel) (by kernel_rfl) ?_; simp only [Act.put, List.setIfInBounds_toArray, List.set_cons_succ, List.set_cons_zero]; go_big_quiet_on) | go_big_quiet_step ((first | (go_at_call 11; (with_reducible exact Calls.regrown_of (QE.out _ (GG.out.mem (H.next (below_regrown _ _ _)))))) | fail)))); (refine wpQuiet_nil ?_); (refine ⟨⟨⟨⟨_, run_alloc_cpu _ rfl _⟩, ⟨rfl, by kernel_rfl, rfl, by kernel_rfl, fun _ => rfl⟩, trivial⟩, trivial⟩, fun wx HM => ?_⟩); clear H; have H := HM; clear HM H0 hwy; (dsimp only [boxesL, List.cons_append, List.nil_append] at H); (try dsimp only [ptrTo]); (try generalize hq0 : β 17 = q0 at *)
          generalize hRn : q0 = Rn at *
          clear hRn
          go_wp2_with (first | fail | fail)
          (refine wp_region_quiet_below (by kernel_rfl) (by kernel_rfl) ?_)
          (repeat (first | (go_big_quiet_want; refine gate_qbin _ 28 _ _ _ rfl ?_; refine quiet_mbin _ 28 _ _ _ rfl _ _ _ rfl rfl (fun w => cp_neqG _ _ _ w) ?_; simp only [Act.put, List.setIfInBounds_toArray, List.set_cons_succ, List.set_cons_zero]; go_big_quiet_on) | (go_big_quiet_want; refine gate_qload _ _ rfl ?_; refine quiet_mloadA 28 _ rfl _ rfl 0 H (cpC _) rfl (by decide +kernel) (by kernel_rfl) ?_; simp only [Act.put, List.setIfInBounds_toArray, List.set_cons_succ, List.set_cons_zero]; go_big_quiet_on) | (go_big_quiet_want; refine gate_qload _ _ rfl ?_; refine quiet_mloadA 28 _ rfl _ rfl 1 H (cpC _) rfl (by decide +kernel) (by kernel_rfl) ?_; simp only [Act.put, List.setIfInBounds_toArray, List.set_cons_succ, List.set_cons_zero]; go_big_quiet_on) | go_big_quiet_step (first | (go_at_call 13; (with_reducible exact Calls.regrown_of (kerase_ct _ _))) | fail)))
          (refine wpQuiet_nil ?_)
          intro _ hw'
          obtain ⟨⟨dq, osq⟩, hw''⟩ := hw'
          (subst hw'')
          replace H := H.next (below_regrown _ dq osq)
          go_wp2_with (first | fail | fail)
          refine wp_region_x (by kernel_rfl) (by kernel_rfl) [(some 107, fun _ => .agg (cpC (q))), (some 108, fun _ => .agg (cpC (eraseM q))), (none, fun _ => undef), (none, fun _ => undef)] (fun D bq w => Mem _ _ _ w ([(Rn, cpC (eraseM q)), (Rm, cpC (q)), (Qa, bsC (ab)), (Qb, bsC (⟨ab.ad, ab.wr, ab.v, false, false⟩)), (Rd, cond (D 3) (cpC (eraseM q)) (cpC (eraseM p))), (Rc, cond (D 2) (cpC (q)) (cpC (p)))])) 110 (by rfl) (by rfl) (by rfl) H.drew ⟨⟨rfl, ?p0⟩, ⟨rfl, ?p1⟩, ⟨rfl, ?p2⟩, ⟨rfl, ?p3⟩, trivial⟩ ?_
          case p0 =>
            intro D bq a' w' hk hc he hl hW
            (try dsimp only at hW)
            have f9 : a'.tmps.getD 9 undef = .pointer (some ⟨Rm, 0, none⟩) := (hl 9).trans ((vsx_no rfl).trans rfl)
            have hM := hW
            exact wp_sloadA _ _ rfl _ f9 1 hM (cpC (q)) rfl (by kernel_rfl) (by kernel_rfl) ⟨0, rfl, hW⟩
          case p1 =>
            intro D bq a' w' hk hc he hl hW
            (try dsimp only at hW)
            have f11 : a'.tmps.getD 11 undef = .pointer (some ⟨Rn, 0, none⟩) := (hl 11).trans ((vsx_no rfl).trans rfl)
            have hM := hW
            exact wp_sloadA _ _ rfl _ f11 0 hM (cpC (eraseM q)) rfl (by kernel_rfl) (by kernel_rfl) ⟨0, rfl, hW⟩
          case p2 =>
            intro D bq a' w' hk hc he hl hW
            (try dsimp only at hW)
            have f2 : a'.tmps.getD 2 undef = .pointer (some ⟨Rc, 0, none⟩) := (hl 2).trans ((vsx_no rfl).trans rfl)
            have e0 : a'.tmps.getD 107 undef = .agg (cpC (q)) := (hl 107).trans (vsx_at (f := fun _ => .agg (cpC (q))) rfl (he ⟨0, .data⟩ (by simp) rfl) rfl)
            have hM := hW
            simp only [hk, cond_false, cond_true] at hM
            refine wp_sstoreA _ _ _ rfl rfl Rc f2 5 hM (cpC (p)) (cpC (q)) rfl e0 (by kernel_rfl) (by kernel_rfl) (by kernel_rfl) fun w1 hM1 => ⟨0, rfl, ?_⟩
            exact hM1
          case p3 =>
            intro D bq a' w' hk hc he hl hW
            (try dsimp only at hW)
            have f5 : a'.tmps.getD 5 undef = .pointer (some ⟨Rd, 0, none⟩) := (hl 5).trans ((vsx_no rfl).trans rfl)
            have e1 : a'.tmps.getD 108 undef = .agg (cpC (eraseM q)) := (hl 108).trans (vsx_at (f := fun _ => .agg (cpC (eraseM q))) rfl (he ⟨1, .data⟩ (by simp) rfl) rfl)
            have hM := hW
            simp only [hk, cond_false, cond_true] at hM
            refine wp_sstoreA _ _ _ rfl rfl Rd f5 4 hM (cpC (eraseM p)) (cpC (eraseM q)) rfl e1 (by kernel_rfl) (by kernel_rfl) (by kernel_rfl) fun w1 hM1 => ⟨0, rfl, ?_⟩
            exact hM1
          intro D bq w' hD hW
          (try dsimp only at hW)
          simp only [hD 2 (by decide), hD 3 (by decide), cond_true] at hW
          clear H hD
          have H := hW
          clear hW
          simp only [putAll, vsOf, Nat.reduceAdd, List.foldl_cons, List.foldl_nil, Act.put, List.setIfInBounds_toArray, List.set_cons_succ, List.set_cons_zero]
          go_wp2_with (first | fail | fail)
          go_roundw
          case rel => exact ⟨k + 1, by omega, by omega, by go_num, by rw [HQ9.out]; exact H.sub (List.Sublist.cons _ (List.Sublist.cons _ (List.Sublist.cons _ (List.Sublist.cons _ (List.Sublist.refl _)))))⟩
          case measure => simp [intOf]; omega
        · have hc1 : decide ((k : Int) < (n : Int)) = true := decide_eq_true (by omega)
          have hc2 : decide ((k : Int) < 60) = false := decide_eq_false (by omega)
          go_wp2_with (first | (go_at_call 10; (with_reducible refine (QW.out _ (GG.out.mem H)).mono ?_); rintro e w2 ⟨rfl, hB⟩; replace H := H.next hB; clear hB) | fail)
          go_ret
          exact ⟨rfl, H.toBelow⟩
      · have hc1 : decide ((k : Int) < (n : Int)) = false := decide_eq_false (by omega)
        go_wp2_with (first | (go_at_call 10; (with_reducible refine (QW.out _ (GG.out.mem H)).mono ?_); rintro e w2 ⟨rfl, hB⟩; replace H := H.next hB; clear hB) | fail)
        go_ret
        exact ⟨rfl, H.toBelow⟩
end Go.Proofs.YtopmlmpadkdhjaaGreatDoor
