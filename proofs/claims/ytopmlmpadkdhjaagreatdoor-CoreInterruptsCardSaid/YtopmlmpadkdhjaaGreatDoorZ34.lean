/-
  Several texts in one: what is read and written by the functions on the way to the statements. Conditions stand in each theorem.
-/
import Derived.Test.YtopmlmpadkdhjaaGreatDoorZ11
import Derived.Test.YtopmlmpadkdhjaaGreatDoorZ33
namespace Go.Proofs.YtopmlmpadkdhjaaGreatDoor
open Go.RowKit
set_option linter.unusedSimpArgs false
set_option linter.unusedVariables false
set_option maxRecDepth 20000

set_option maxHeartbeats 400000 in
theorem rclean_ct (n : Int) (w : World) (n0 : 0 ≤ n) (n1 : n < 256) :
    Calls Tryz.prog 46 #[.int .u8 n] w fun e w' => e = .returned (.int .u8 (clr n)) ∧ Below w.heap.size w w' := by
  unfold clr
  go_enter Tryz.func46, Tryz.ntmps46
  go_wp2
  go_ret
  exact ⟨rfl, Below.refl _ _⟩
end Go.Proofs.YtopmlmpadkdhjaaGreatDoor
namespace Go.Proofs.YtopmlmpadkdhjaaGreatDoor
open Go.RowKit
set_option linter.unusedSimpArgs false
set_option linter.unusedVariables false
set_option maxRecDepth 20000

set_option maxHeartbeats 2000000 in
theorem qcheck_ct (p s : Int) (w : World) (p0 : 0 ≤ p) (p1 : p < 256) (s0 : 0 ≤ s) (s1 : s < 256) :
    Calls Tryz.prog 19 #[.agg #[.int .u8 p, .int .u8 s]] w fun e w' => e = .returned (.agg #[.int .u8 (clr p), .int .u8 (clr s)]) ∧ Below w.heap.size w w' := by
  have HZF := Lib.hid alloc_fl
  have HZB := Lib.hid alloc_by
  have H := Mem.start w
  have M1 : True := trivial
  have M2 : True := trivial
  go_enter Tryz.func19, Tryz.ntmps19
  go_wp2_with (first | (refine wpList_mboxA rfl _ _ rfl H _ rfl ?_; clear H; (first | (clear M1; intro R1 w1 _ H) | (clear M2; intro R2 w1 _ H))) | go_skip | (refine wpList_mnew rfl _ rfl H _ HZF.out ?_; clear H; (first | (clear M1; intro R1 w1 _ H) | (clear M2; intro R2 w1 _ H))) | fail)
  (try simp only [Act.put, List.setIfInBounds_toArray, List.set_cons_succ, List.set_cons_zero])
  (refine wp_region_tails_below 7 (by kernel_rfl) (by kernel_rfl) ?_); (simp only [List.take_succ_cons, List.take_zero, List.drop_succ_cons, List.drop_zero]); (repeat (first | (go_big_quiet_want; refine gate_qload _ _ rfl ?_; (first | (refine quiet_mload1 _ _ rfl _ _ rfl 1 H _ (.int _ _) rfl rfl (by decide +kernel) ?_)); simp only [Act.put, List.setIfInBounds_toArray, List.set_cons_succ, List.set_cons_zero]; go_big_quiet_on) | go_big_quiet_step ((first | (go_at_call 46; (with_reducible exact Calls.regrown_of (rclean_ct _ _ (by first | assumption | decide | omega) (by first | assumption | decide | omega)))))))); (refine wpQuiet_nil ?_); intro _ hw'; obtain ⟨⟨dq, osq⟩, hw''⟩ := hw'; (subst hw''); have hq := below_regrown w1 dq osq; replace H := H.next hq; generalize Go.Sort.grow (redrawn w1 dq) osq = wq at *
  go_wp2_with (first | go_skip | (refine gate_store _ _ _ rfl ?_; (first | (refine wpList_mstoreA rfl _ _ _ rfl rfl _ rfl 0 H _ _ rfl rfl (by kernel_rfl) (by kernel_rfl) (by kernel_rfl) ?_)); clear H; intro w1 H; simp only [List.set_cons_zero, List.set_cons_succ] at H))
  refine ret_mem1 rfl _ rfl 0 H _ rfl (by kernel_rfl) (by kernel_rfl) rfl ?_
  exact ⟨rfl, H.toBelow⟩
end Go.Proofs.YtopmlmpadkdhjaaGreatDoor
namespace Go.Proofs.YtopmlmpadkdhjaaGreatDoor
open Go.RowKit
set_option linter.unusedSimpArgs false
set_option linter.unusedVariables false
set_option maxRecDepth 20000

theorem ret_tct {P : Program} {n : Nat} {X : List Nat} {w0 w : World} {l : List (Nat × Array Value)} {a : Act} {fn : Func} {Rr : Ending → World → Prop} {p q r : Tmp} {ty : TypeId} (hf : fn.results = #[.tmp q, .cell p ty, .tmp r]) (R : Nat) (hp : a.tmps.getD p undef = .pointer (some ⟨R, 0, none⟩)) (i : Nat) (H : Mem n X w0 w l) (cs : Array Value) (hi : l[i]? = some (R, cs))
    (hu : (P.underlying ty).map aggB = some true) (hz : (P.info? ty).map (·.size) = some cs.size) (hd : a.defers = []) (v u : Value) (hq : a.tmps.getD q undef = v) (hr : a.tmps.getD r undef = u) (h : Rr (.returned (.tuple #[v, .agg cs, u])) w) : bodyPost P fn Rr .ret a w := by
  obtain ⟨t, hg⟩ := H.get hi
  refine bodyPost_ret ?_ hd h
  have hl := run_loadVar_part (P := P) w R 0 t ty cs cs hg hu hz (fun j v hj => by rw [Nat.zero_add]; exact hj)
  have hp' : a.tmps[p]?.getD undef = .pointer (some ⟨R, 0, none⟩) := by simpa using hp
  have hq' : a.tmps[q]?.getD undef = v := by simpa using hq
  have hr' : a.tmps[r]?.getD undef = u := by simpa using hr
  simp [results, hf, hp', hq', hr', asAddr, hl]
theorem build_by0 (v : Int) (w : World) : (Instr.build 23 #[(0, .int .u8 v)]).run Tryz.prog w = .ok (.agg #[.int .u8 v, .bool false]) w := by kernel_rfl
theorem build_by00 (w : World) : (Instr.build 23 #[]).run Tryz.prog w = .ok (.agg #[.int .u8 0, .bool false]) w := by kernel_rfl
theorem build_byb (v : Int) (b : Bool) (w : World) : (Instr.build 23 #[(0, .int .u8 v), (1, .bool b)]).run Tryz.prog w = .ok (.agg #[.int .u8 v, .bool b]) w := by kernel_rfl
theorem build_ln0 (w : World) : (Instr.build 36 #[]).run Tryz.prog w = .ok (.agg #[.bool false, .bool false, .bool false]) w := by kernel_rfl
theorem itm_ok (c : Cp) (op v : Int) (F : Fit c) (h : okB c = true) (o0 : 0 ≤ op) (o1 : op < 256) (v0 : 0 ≤ v) (v1 : v < 256) : ∀ n, okB (itM c op v n) = true ∧ Fit (itM c op v n)
  | 0 => ⟨h, F⟩
  | 1 => ⟨(take_ok c op false false false false F h o0 o1).1, (take_ok c op false false false false F h o0 o1).2.1⟩
  | n + 2 => by
    obtain ⟨h1, F1⟩ := itm_ok c op v F h o0 o1 v0 v1 (n + 1)
    exact ⟨(take_ok _ v false false false false F1 h1 v0 v1).1, (take_ok _ v false false false false F1 h1 v0 v1).2.1⟩
/-- A processor ahead of an instruction. -/
def aheadC (c : Cp) : Cp := { c with t := 0, intr := 0, pend := 0, got := false, nmi := false, jam := false, p := clr c.p, ps := clr c.ps }
theorem ahead_fit {c : Cp} (O : Oct c) : Fit (aheadC c) := ⟨O.a0, O.a1, O.x0, O.x1, O.y0, O.y1, O.s0, O.s1, (clr_le _ O.p0 O.p1).1, (clr_le _ O.p0 O.p1).2, (clr_le _ O.q0 O.q1).1, (clr_le _ O.q0 O.q1).2, clr_clr _, clr_clr _, O.pc0, O.pc1, O.op0, O.op1, O.ad0, O.ad1, O.d0, O.d1⟩
theorem ahead_ok {c : Cp} (O : Oct c) : okB (aheadC c) = true := (okB_iff _).2 ⟨⟨by show (0 : Int) ≤ 0; omega, by have := (tab_all c.op O.op0 O.op1).2; show (0 : Int) < mostV c.op; omega⟩, ⟨by show (0 : Int) ≤ 0; omega, by show (0 : Int) ≤ 3; omega⟩, ⟨by show (0 : Int) ≤ 0; omega, by show (0 : Int) ≤ 2; omega⟩, clr_clr _, clr_clr _⟩
theorem ahead_calm (c : Cp) : Calm (aheadC c) := ⟨rfl, rfl, rfl⟩
def cycE (c : Cp) (op v : Int) (N : Nat) : Value := if N ≤ 10 then .tuple #[.int .i64 N, .agg (cpC (itM c op v N)), .bool true] else .tuple #[.int .i64 0, .agg (cpC (itM c op v 10)), .bool false]
def rdV (op v : Int) (k : Nat) : Int := if k = 0 then op else v
theorem itm_next (c : Cp) (op v : Int) (k : Nat) : takeM (itM c op v k) (rdV op v k) false false false false = itM c op v (k + 1) := by
  cases k <;> rfl
theorem rdV_le (op v : Int) (k : Nat) (o0 : 0 ≤ op) (o1 : op < 256) (v0 : 0 ≤ v) (v1 : v < 256) : 0 ≤ rdV op v k ∧ rdV op v k < 256 := by
  unfold rdV
  split <;> omega
set_option maxHeartbeats 2000000 in
theorem kcarry_ct (a b : Int) (w : World) (a0 : 0 ≤ a) (a1 : a < 256) (b0 : 0 ≤ b) (b1 : b < 256) : Calls Tryz.prog 18 #[.int .u8 a, .int .u8 b] w fun e w' => e = .returned (.int .i64 ((a + b) / 256)) ∧ Below w.heap.size w w' := by
  have H := Mem.start w
  have W : wrap64 (a + b) = a + b := w64 _ (by omega) (by omega)
  have W1 : wrap64 ((a + b) / 256) = (a + b) / 256 := w64 _ (by omega) (by omega)
  go_enter Tryz.func18, Tryz.ntmps18
  go_wp2_with fail
  go_ret
  refine ⟨?_, H.toBelow⟩
  first | rfl | simp [W, W1]
attribute [local irreducible] wpList
set_option maxHeartbeats 8000000 in
theorem kcycles_ct (c : Cp) (op v : Int) (N : Nat) (O : Oct c) (o0 : 0 ≤ op) (o1 : op < 256) (v0 : 0 ≤ v) (v1 : v < 256) (N0 : 0 < N) (N1 : N ≤ 11) (hno : ∀ j, 0 < j → j < N → (itM (aheadC c) op v j).t ≠ 0) (hN : N ≤ 10 → (itM (aheadC c) op v N).t = 0) (w : World) (G : GlobO w) : Calls Tryz.prog 16 #[.agg (cpC c), .int .u8 op, .int .u8 v] w fun e w' => e = .returned (cycE (aheadC c) op v N) ∧ Below w.heap.size w w' := by
  have QC := Lib.hid (fun wr => qcheck_ct c.p c.ps wr O.p0 O.p1 O.q0 O.q1)
  have IK := Lib.hid (itm_ok (aheadC c) op v (ahead_fit O) (ahead_ok O) o0 o1 v0 v1)
  have HNO := Lib.hid hno
  have HNN := Lib.hid hN
  have RV := Lib.hid (fun k => rdV_le op v k o0 o1 v0 v1)
  clear hno hN O
  have HZC := Lib.hid alloc_cpu
  have GG := Lib.hid G
  clear G
  have H := Mem.start w
  have M1 : True := trivial
  have M2 : True := trivial
  have M3 : True := trivial
  go_enter Tryz.func16, Tryz.ntmps16
  go_wp2_with (first | (clear M1; refine wpList_mboxA rfl _ _ rfl H _ rfl ?_; clear H; intro Rc w1 _ H) | (clear M2; refine wpList_mnew rfl _ rfl H _ HZC.out ?_; clear H; intro Rr w1 _ H) | (refine gate_store _ _ _ rfl ?_; refine wpList_mstore rfl _ _ _ rfl rfl _ _ rfl 1 H _ _ rfl (.int _ _) rfl (by kernel_rfl) (of_decide_eq_true (by kernel_rfl)) (by kernel_rfl) (ct_I rfl) ?_; clear H; intro w1 H; simp only [List.set_cons_zero, List.set_cons_succ] at H) | (refine gate_store _ _ _ rfl ?_; refine wpList_mstore rfl _ _ _ rfl rfl _ _ rfl 1 H _ _ rfl (.bool _) rfl (by kernel_rfl) (of_decide_eq_true (by kernel_rfl)) (by kernel_rfl) (ct_B rfl) ?_; clear H; intro w1 H; simp only [List.set_cons_zero, List.set_cons_succ] at H) | (refine gate_load _ _ rfl ?_; refine wpList_mload rfl 25 _ rfl _ _ rfl 1 H _ #[.int .u8 _, .int .u8 _] rfl (by decide +kernel) (by kernel_rfl) (part2 rfl rfl) ?_) | (go_at_call 19; (with_reducible refine (QC.out _).mono ?_); rintro e w2 ⟨rfl, hB⟩; replace H := H.next hB; clear hB) | (refine gate_store _ _ _ rfl ?_; refine wpList_mstore rfl _ _ _ rfl rfl _ _ rfl 1 H _ _ rfl (.agg #[.int .u8 _, .int .u8 _]) rfl (by kernel_rfl) (of_decide_eq_true (by kernel_rfl)) (by kernel_rfl) (ct_F rfl rfl) ?_; clear H; intro w1 H; simp only [List.set_cons_zero, List.set_cons_succ] at H) | fail)
  go_loopw [9, 10] (fun rd i wr => ∃ k : Nat, k ≤ 10 ∧ i = .int .i64 ((k : Int) + 1) ∧ rd = .int .u8 (rdV op v k) ∧ k < N ∧ Mem w.heap.size [] w wr [(Rr, cpC cp0), (Rc, cpC (itM (aheadC c) op v k))]) (fun _ i _ => 11 - (intOf i).toNat)
  case atStart => exact ⟨0, by omega, rfl, rfl, N0, H⟩
  case round =>
    clear H
    obtain ⟨k, hk, rfl, rfl, hkN, H⟩ := hrel
    by_cases hlt : k < 10
    · have QT := Lib.hid (fun wr (g : GlobO wr) => (show Calls Tryz.prog 11 #[.agg (cpC (itM (aheadC c) op v k)), .agg #[.int .u8 (rdV op v k), .bool false], .agg #[.bool false, .bool false, .bool false]] wr fun e w' => e = .returned (.tuple #[.agg (cpC (itM (aheadC c) op v (k + 1))), .int .i64 0]) ∧ Below wr.heap.size wr w' from by
        have := take_ct (itM (aheadC c) op v k) (rdV op v k) false false false false (IK.out k).2 (IK.out k).1 (RV.out k).1 (RV.out k).2 wr g
        rw [itm_next] at this
        exact this))
      have hc : decide ((k : Int) + 1 ≤ 10) = true := decide_eq_true (by omega)
      have hq0 : k + 1 = N → (itM (aheadC c) op v (k + 1)).t = 0 := fun e => by
        subst e
        exact HNN.out (by omega)
      have hq1 : k + 1 ≠ N → (itM (aheadC c) op v (k + 1)).t ≠ 0 := fun e => HNO.out (k + 1) (by omega) (by omega)
      have WK : wrap64 ((k : Int) + 1 + 1) = (k : Int) + 1 + 1 := w64 _ (by omega) (by omega)
      have hE : k + 1 = N → cycE (aheadC c) op v N = .tuple #[.int .i64 ((k : Int) + 1), .agg (cpC (itM (aheadC c) op v (k + 1))), .bool true] := fun e => by
        subst e
        unfold cycE
        rw [if_pos (by omega)]
        rfl
      have HE := Lib.hid hE
      clear hE
      generalize hq9 : itM (aheadC c) op v (k + 1) = q at *
      generalize itM (aheadC c) op v k = p at *
      have HQ9 := Lib.hid hq9
      clear hq9
      by_cases hkN1 : k + 1 = N
      · have hd : (q.t == 0) = true := by rw [hq0 hkN1]; rfl
        clear hq0 hq1
        go_wp2_with (first | (refine gate_load _ _ rfl ?_; refine wpList_mloadA rfl 28 _ rfl _ rfl 1 H (cpC _) rfl (by decide +kernel) (by kernel_rfl) ?_) | (refine wpList_mbuildv rfl _ _ rfl _ (by simp only [List.map_toArray, List.map_cons, List.map_nil, Act.eval]; rfl) _ (build_by0 _) ?_) | (go_at_call 11; (with_reducible refine (QT.out _ (GG.out.mem H)).mono ?_); rintro e w2 ⟨rfl, hB⟩; replace H := H.next hB; clear hB) | (clear M3; refine wpList_mnew rfl _ rfl H _ HZC.out ?_; clear H; intro Rn w1 _ H) | (refine gate_store _ _ _ rfl ?_; refine wpList_mstoreA rfl 28 _ _ rfl rfl _ rfl 0 H (cpC _) _ rfl rfl (by kernel_rfl) (by kernel_rfl) (by kernel_rfl) ?_; clear H; intro w1 H; simp only [List.set_cons_zero, List.set_cons_succ] at H) | (refine gate_load _ _ rfl ?_; refine wpList_mloadA rfl 28 _ rfl _ rfl 0 H (cpC _) rfl (by decide +kernel) (by kernel_rfl) ?_) | (refine gate_store _ _ _ rfl ?_; refine wpList_mstoreA rfl 28 _ _ rfl rfl _ rfl 2 H (cpC _) _ rfl rfl (by kernel_rfl) (by kernel_rfl) (by kernel_rfl) ?_; clear H; intro w1 H; simp only [List.set_cons_zero, List.set_cons_succ] at H) | (refine gate_load _ _ rfl ?_; refine wpList_mload1 rfl _ _ rfl _ _ rfl 2 H _ (.int _ _) rfl rfl (by decide +kernel) ?_) | fail)
        (refine wp_region_tails_below 3 (by kernel_rfl) (by kernel_rfl) ?_)
        (simp only [List.take_succ_cons, List.take_zero, List.drop_succ_cons, List.drop_zero])
        (repeat (first | (go_big_quiet_want; refine gate_qload _ _ rfl ?_; refine quiet_mloadA 28 _ rfl _ rfl 2 H (cpC _) rfl (by decide +kernel) (by kernel_rfl) ?_; simp only [Act.put, List.setIfInBounds_toArray, List.set_cons_succ, List.set_cons_zero]; go_big_quiet_on) | go_big_quiet_step (fail)))
        (refine wpQuiet_nil ?_)
        intro _ hw'
        obtain ⟨⟨dq, osq⟩, hw''⟩ := hw'
        (subst hw'')
        replace H := H.next (below_regrown _ dq osq)
        go_wp2_with (first | (refine gate_store _ _ _ rfl ?_; refine wpList_mstoreA rfl 28 _ _ rfl rfl _ rfl 1 H (cpC _) _ rfl rfl (by kernel_rfl) (by kernel_rfl) (by kernel_rfl) ?_; clear H; intro w1 H; simp only [List.set_cons_zero, List.set_cons_succ] at H) | fail)
        refine ret_tct rfl _ rfl 1 H _ rfl (by kernel_rfl) (by kernel_rfl) rfl _ _ rfl rfl ?_
        exact ⟨(HE.out hkN1).symm ▸ rfl, H.toBelow⟩
      · have hd : (q.t == 0) = false := by simpa using hq1 hkN1
        clear hq0 hq1
        go_wp2_with (first | (refine gate_load _ _ rfl ?_; refine wpList_mloadA rfl 28 _ rfl _ rfl 1 H (cpC _) rfl (by decide +kernel) (by kernel_rfl) ?_) | (refine wpList_mbuildv rfl _ _ rfl _ (by simp only [List.map_toArray, List.map_cons, List.map_nil, Act.eval]; rfl) _ (build_by0 _) ?_) | (go_at_call 11; (with_reducible refine (QT.out _ (GG.out.mem H)).mono ?_); rintro e w2 ⟨rfl, hB⟩; replace H := H.next hB; clear hB) | (clear M3; refine wpList_mnew rfl _ rfl H _ HZC.out ?_; clear H; intro Rn w1 _ H) | (refine gate_store _ _ _ rfl ?_; refine wpList_mstoreA rfl 28 _ _ rfl rfl _ rfl 0 H (cpC _) _ rfl rfl (by kernel_rfl) (by kernel_rfl) (by kernel_rfl) ?_; clear H; intro w1 H; simp only [List.set_cons_zero, List.set_cons_succ] at H) | (refine gate_load _ _ rfl ?_; refine wpList_mloadA rfl 28 _ rfl _ rfl 0 H (cpC _) rfl (by decide +kernel) (by kernel_rfl) ?_) | (refine gate_store _ _ _ rfl ?_; refine wpList_mstoreA rfl 28 _ _ rfl rfl _ rfl 2 H (cpC _) _ rfl rfl (by kernel_rfl) (by kernel_rfl) (by kernel_rfl) ?_; clear H; intro w1 H; simp only [List.set_cons_zero, List.set_cons_succ] at H) | (refine gate_load _ _ rfl ?_; refine wpList_mload1 rfl _ _ rfl _ _ rfl 2 H _ (.int _ _) rfl rfl (by decide +kernel) ?_) | fail)
        go_roundw
        case rel => exact ⟨k + 1, by omega, by go_num, rfl, by omega, by rw [HQ9.out]; exact H.sub (List.Sublist.cons _ (List.Sublist.refl _))⟩
        case measure => simp [intOf]; omega
    · obtain rfl : k = 10 := by omega
      obtain rfl : N = 11 := by omega
      have hE : cycE (aheadC c) op v 11 = .tuple #[.int .i64 0, .agg (cpC (itM (aheadC c) op v 10)), .bool false] := by
        unfold cycE
        rw [if_neg (by omega)]
      have HE := Lib.hid hE
      clear hE
      generalize itM (aheadC c) op v 10 = q at *
      have hc : decide ((10 : Int) + 1 ≤ 10) = false := by decide
      go_wp2_with (first | fail | fail)
      (refine wp_region_tails_below 2 (by kernel_rfl) (by kernel_rfl) ?_)
      (simp only [List.take_succ_cons, List.take_zero, List.drop_succ_cons, List.drop_zero])
      (repeat (first | (go_big_quiet_want; refine gate_qload _ _ rfl ?_; refine quiet_mloadA 28 _ rfl _ rfl 1 H (cpC _) rfl (by decide +kernel) (by kernel_rfl) ?_; simp only [Act.put, List.setIfInBounds_toArray, List.set_cons_succ, List.set_cons_zero]; go_big_quiet_on) | go_big_quiet_step (fail)))
      (refine wpQuiet_nil ?_)
      intro _ hw'
      obtain ⟨⟨dq, osq⟩, hw''⟩ := hw'
      (subst hw'')
      replace H := H.next (below_regrown _ dq osq)
      go_wp2_with (first | (refine gate_store _ _ _ rfl ?_; refine wpList_mstoreA rfl 28 _ _ rfl rfl _ rfl 0 H (cpC _) _ rfl rfl (by kernel_rfl) (by kernel_rfl) (by kernel_rfl) ?_; clear H; intro w1 H; simp only [List.set_cons_zero, List.set_cons_succ] at H) | fail)
      refine ret_tct rfl _ rfl 0 H _ rfl (by kernel_rfl) (by kernel_rfl) rfl _ _ rfl rfl ?_
      exact ⟨HE.out.symm ▸ rfl, H.toBelow⟩
end Go.Proofs.YtopmlmpadkdhjaaGreatDoor
namespace Go.Proofs.YtopmlmpadkdhjaaGreatDoor
set_option linter.unusedSimpArgs false
set_option linter.unusedVariables false

theorem take_go {c : Cp} {v : Int} {b i n : Bool} {d : Wk} (hd : workM c v b = d) (h : d.nx ≠ 0) : takeM c v b i n false = { d.toCp with t := d.nx, got := gotB d.toCp n, nmi := n, ctl := d.ctl || hasV d.ps 4, pend := if gotB d.toCp n then 2 else if i && !hasV d.p 4 then 1 else 0 } := by
  unfold takeM
  rw [hd]
  unfold endW
  rw [if_pos h]
  rfl
theorem take_brk {c : Cp} {v : Int} {b i n : Bool} {d : Wk} (hd : workM c v b = d) (h : d.nx = 0) (hm : d.md = 17) : takeM c v b i n false = { d.toCp with t := 0, intr := 0, got := gotB d.toCp n, nmi := n, ctl := d.ctl || hasV d.ps 4, pend := if gotB d.toCp n then 2 else if i && !hasV d.p 4 then 1 else 0 } := by
  unfold takeM
  rw [hd]
  unfold endW
  rw [if_neg (fun hn => hn h), if_pos hm]
  rfl
theorem take_end {c : Cp} {v : Int} {b i n : Bool} {d : Wk} (hd : workM c v b = d) (h : d.nx = 0) (hm : d.md ≠ 17) : takeM c v b i n false = { d.toCp with t := 0, intr := d.pend, got := (d.got && !decide (d.pend = 2)) || (n && !d.nmi), nmi := n, ctl := d.ctl || hasV d.ps 4, pend := if (d.got && !decide (d.pend = 2)) || (n && !d.nmi) then 2 else if i && !hasV d.p 4 then 1 else 0 } := by
  unfold takeM
  rw [hd]
  unfold endW
  rw [if_neg (fun hn => hn h), if_neg hm]
  rfl
theorem work_b (c : Cp) (v : Int) {op : Int} {L : List (AskI × DoI)} (ht : c.t ≠ 0) (hop : c.op = op) (hL : stepsL (modeV op) (useV op) = L) : ∃ x, workM c v false = doM (L.getD (c.t - 1).toNat (.pc, .rest)).2 { opW (emptyW c v false) op with nx := if c.t = (L.length : Int) then 0 else c.t + 1, ctl := x } := by
  subst hop
  subst hL
  exact work_n c v ht
theorem asked_b (c : Cp) {op : Int} {L : List (AskI × DoI)} (ht : c.t ≠ 0) (hop : c.op = op) (hL : stepsL (modeV op) (useV op) = L) : askedM c = askM (L.getD (c.t - 1).toNat (.pc, .rest)).1 { opW (emptyW c 0 false) op with nx := if c.t = (L.length : Int) then 0 else c.t + 1 } := by
  subst hop
  subst hL
  unfold askedM
  dsimp only
  unfold turnS turnW
  rw [if_neg (show ¬ (emptyW c 0 false).t = 0 from ht), if_neg (show ¬ (emptyW c 0 false).t = 0 from ht)]
  rfl
def brkL : List (AskI × DoI) := [(.pc, .breakOn), (.high, .pushed), (.low, .pushed), (.flags, .pushed), (.vec, .keep), (.vec1, .interrupt)]
theorem brk_steps : stepsL (modeV 0) (useV 0) = brkL := by kernel_rfl
theorem brk_mode : modeV 0 = 17 := by kernel_rfl
theorem nop_steps : stepsL (modeV 234) (useV 234) = [(.pc, .alone)] := by kernel_rfl
theorem nop_mode : modeV 234 = 0 := by kernel_rfl
theorem nop_name : nameV 234 = S3 78 79 80 := by kernel_rfl
theorem nop_does (s : Wk) (h : s.nm = S3 78 79 80) : aloneM s = s := by
  unfold aloneM byName
  rw [h]
  rfl
/-- What is looked at. -/
structure In (c : Cp) (t op intr : Int) (m : Bool) (pc sv p : Int) : Prop where
  t : c.t = t
  op : c.op = op
  intr : c.intr = intr
  got : c.got = false
  nmi : c.nmi = m
  pc : c.pc = pc
  pcs : c.pcs = false
  sv : c.sv = sv
  sb : c.sb = false
  p : c.p = p
  ps : c.ps = 0
theorem in_go {c : Cp} {v : Int} {i m : Bool} {d : Wk} {t s op intr pc sv p : Int} (hd : workM c v false = d) (hn : d.nx = t) (ht : t ≠ 0) (h : In d.toCp s op intr m pc sv p) : In (takeM c v false i m false) t op intr m pc sv p := by
  rw [take_go hd (by rw [hn]; exact ht)]
  exact ⟨hn, h.op, h.intr, by show gotB d.toCp m = false; unfold gotB; rw [h.got, h.nmi]; cases m <;> rfl, rfl, h.pc, h.pcs, h.sv, h.sb, h.p, h.ps⟩
section
variable {c : Cp} {intr pc sv p : Int} {m : Bool}
/-- The cycles of an interrupt, from the one in which nothing is read on. -/
theorem int_0 (v : Int) (i : Bool) {op : Int} (h : In c 0 op intr m pc sv p) (hi : intr ≠ 0) : In (takeM c v false i m false) 1 0 intr m pc sv p := by
  have e : ∃ x, workM c v false = { begunW { emptyW c v false with nx := 1, ctl := x } with op := 0 } := by
    unfold workM turnS turnW
    rw [if_pos (show (emptyW c v false).t = 0 from h.t), if_pos (show (emptyW c v false).t = 0 from h.t)]
    refine ⟨c.ctl || c.pcs, ?_⟩
    have e : ∀ s : Wk, s.intr = intr → beginW s = { begunW s with op := 0 } := fun s hs => by
      unfold beginW
      rw [if_neg (by rw [hs]; exact hi)]
    exact e { emptyW c v false with nx := 1, ctl := c.ctl || c.pcs } h.intr
  obtain ⟨x, hx⟩ := e
  exact in_go (s := c.t) hx rfl (by decide) ⟨rfl, rfl, h.intr, h.got, h.nmi, h.pc, h.pcs, h.sv, h.sb, h.p, h.ps⟩
theorem int_1 (v : Int) (i : Bool) (h : In c 1 0 intr m pc sv p) (hi : intr ≠ 0) : In (takeM c v false i m false) 2 0 intr m pc sv p := by
  obtain ⟨x, hx⟩ := work_b c v (by rw [h.t]; decide) h.op brk_steps
  rw [h.t] at hx
  have e : ∀ s : Wk, s.intr = intr → doM .breakOn s = s := fun s hs => if_neg (by rw [hs]; exact hi)
  exact in_go (s := c.t) (hx.trans (e _ h.intr)) rfl (by decide) ⟨rfl, h.op, h.intr, h.got, h.nmi, h.pc, h.pcs, h.sv, h.sb, h.p, h.ps⟩
theorem int_p (v : Int) (i : Bool) {j : Int} (h : In c j 0 intr m pc sv p) (hj : j = 2 ∨ j = 3 ∨ j = 4) : In (takeM c v false i m false) (j + 1) 0 intr m pc ((sv - 1) % 256) p := by
  obtain ⟨x, hx⟩ := work_b c v (by rw [h.t]; omega) h.op brk_steps
  rw [h.t] at hx
  rcases hj with rfl | rfl | rfl <;> exact in_go (s := c.t) hx rfl (by decide) ⟨rfl, h.op, h.intr, h.got, h.nmi, h.pc, h.pcs, congrArg (fun z => (z - 1) % 256) h.sv, h.sb, h.p, h.ps⟩
theorem int_5 (v : Int) (i : Bool) (h : In c 5 0 intr m pc sv p) : In (takeM c v false i m false) 6 0 intr m pc sv p ∧ (takeM c v false i m false).dv = v ∧ (takeM c v false i m false).db = false := by
  obtain ⟨x, hx⟩ := work_b c v (by rw [h.t]; decide) h.op brk_steps
  rw [h.t] at hx
  refine ⟨in_go (s := c.t) hx rfl (by decide) ⟨rfl, h.op, h.intr, h.got, h.nmi, h.pc, h.pcs, h.sv, h.sb, h.p, h.ps⟩, ?_, ?_⟩
  · rw [take_go hx (show (6 : Int) ≠ 0 by decide)]; rfl
  · rw [take_go hx (show (6 : Int) ≠ 0 by decide)]; rfl
theorem int_6 (v : Int) (i : Bool) (h : In c 6 0 intr m pc sv p) (hd : c.dv = v) : (takeM c v false i m false).t = 0 ∧ (takeM c v false i m false).intr = 0 ∧ (takeM c v false i m false).pc = v + 256 * v ∧ (takeM c v false i m false).p = pbV p 4 true ∧ (takeM c v false i m false).got = false := by
  obtain ⟨x, hx⟩ := work_b c v (by rw [h.t]; decide) h.op brk_steps
  rw [h.t] at hx
  rw [take_brk hx (by rfl) brk_mode]
  refine ⟨rfl, rfl, ?_, ?_, ?_⟩
  · show c.dv + 256 * v = _
    rw [hd]
  · show pbV c.p 4 (1 != 0) = _
    rw [h.p]
    rfl
  · show (c.got || (m && !c.nmi)) = false
    rw [h.got, h.nmi]
    cases m <;> rfl
theorem ask_0 {op : Int} (h : In c 0 op intr m pc sv p) : (askedM c).wr = false := by
  unfold askedM
  dsimp only
  unfold turnS
  rw [if_pos (show (emptyW c 0 false).t = 0 from h.t)]
  rfl
theorem ask_1 (h : In c 1 0 intr m pc sv p) : (askedM c).wr = false := by
  rw [asked_b c (by rw [h.t]; decide) h.op brk_steps, h.t]
  rfl
theorem push_w (s : Wk) (v : Int) (b : Bool) (h : s.intr ≠ 3) : pushB s v b = ⟨s.sv + 256 * 1, true, v, b, s.sb⟩ := if_neg (fun hh => h hh.2)
theorem ask_2 (h : In c 2 0 intr m pc sv p) (hi : intr ≠ 3) : askedM c = ⟨sv + 256 * 1, true, pc / 256, false, false⟩ := by
  rw [asked_b c (by rw [h.t]; decide) h.op brk_steps, h.t]
  refine (push_w _ _ _ (by show c.intr ≠ 3; rw [h.intr]; exact hi)).trans ?_
  show (⟨c.sv + 256 * 1, true, c.pc / 256, c.pcs, c.sb⟩ : Bs) = _
  rw [h.sv, h.pc, h.pcs, h.sb]
theorem ask_3 (h : In c 3 0 intr m pc sv p) (hi : intr ≠ 3) : askedM c = ⟨sv + 256 * 1, true, pc % 256, false, false⟩ := by
  rw [asked_b c (by rw [h.t]; decide) h.op brk_steps, h.t]
  refine (push_w _ _ _ (by show c.intr ≠ 3; rw [h.intr]; exact hi)).trans ?_
  show (⟨c.sv + 256 * 1, true, c.pc % 256, c.pcs, c.sb⟩ : Bs) = _
  rw [h.sv, h.pc, h.pcs, h.sb]
theorem ask_4 (h : In c 4 0 intr m pc sv p) (hi : intr ≠ 3) (hz : intr ≠ 0) : askedM c = ⟨sv + 256 * 1, true, pushV p false, false, false⟩ := by
  rw [asked_b c (by rw [h.t]; decide) h.op brk_steps, h.t]
  refine (push_w _ _ _ (by show c.intr ≠ 3; rw [h.intr]; exact hi)).trans ?_
  show (⟨c.sv + 256 * 1, true, pushV c.p (decide (c.intr = 0)), hasV c.ps 207, c.sb⟩ : Bs) = _
  rw [h.sv, h.p, h.ps, h.sb, h.intr, hasV_zero, decide_eq_false hz]
theorem ask_5 (h : In c 5 0 intr m pc sv p) : (askedM c).wr = false ∧ (askedM c).ad = vecV intr := by
  rw [asked_b c (by rw [h.t]; decide) h.op brk_steps, h.t]
  exact ⟨rfl, congrArg vecV h.intr⟩
theorem ask_6 (h : In c 6 0 intr m pc sv p) : (askedM c).wr = false := by
  rw [asked_b c (by rw [h.t]; decide) h.op brk_steps, h.t]
  rfl
end
/-- The processor that is asked. -/
def clear0 (c : Cp) : Cp := ⟨c.av, c.ab, c.xv, c.xb, c.yv, c.yb, c.sv, false, clr c.p, 0, c.pc, false, 0, 0, 0, false, 0, false, false, 0, false, false, 0, false, false⟩
/-- The first two cycles: NOP, while a line is set. -/
theorem two_ok (c : Cp) (v : Int) (m : Bool) (F : Fit c) : ∃ q, q = takeM (takeM (clear0 c) 234 false (!m) m false) v false (!m) m false ∧ In q 0 234 (if m then 2 else if hasV (clr c.p) 4 then 0 else 1) m ((c.pc + 1) % 65536) c.sv (clr c.p) := by
  refine ⟨_, rfl, ?_⟩
  obtain ⟨x, hx⟩ := work_0 (clear0 c) 234 rfl rfl
  have e1 : takeM (clear0 c) 234 false (!m) m false = _ := take_go hx (show (1 : Int) ≠ 0 by decide)
  generalize hq : takeM (clear0 c) 234 false (!m) m false = q at *
  have ht : q.t = 1 := congrArg Cp.t e1
  have hop : q.op = 234 := congrArg Cp.op e1
  obtain ⟨y, hy⟩ := work_b q v (by rw [ht]; decide) hop nop_steps
  rw [ht] at hy
  have ed : ∀ s : Wk, s.nm = S3 78 79 80 → doM .alone s = s := fun s hs => nop_does s hs
  have hy := hy.trans (ed _ nop_name)
  rw [take_end hy (by rfl) (by show modeV 234 ≠ 17; rw [nop_mode]; decide)]
  have hp : q.p = clr c.p := congrArg Cp.p e1
  have hg : q.got = m := (congrArg Cp.got e1).trans (show (false || (m && !false)) = m by cases m <;> rfl)
  have hn : q.nmi = m := congrArg Cp.nmi e1
  have hpe : q.pend = if m then 2 else if hasV (clr c.p) 4 then 0 else 1 := (congrArg Cp.pend e1).trans (by
    show (if (false || (m && !false)) = true then (2 : Int) else if (!m && !hasV (clr c.p) 4) = true then 1 else 0) = _
    cases m <;> cases hasV (clr c.p) 4 <;> rfl)
  refine ⟨rfl, hop, hpe, ?_, rfl, ?_, ?_, ?_, ?_, hp, ?_⟩
  · show (q.got && !decide (q.pend = 2) || m && !q.nmi) = false
    rw [hg, hpe, hn]
    cases m <;> cases hasV (clr c.p) 4 <;> rfl
  · have h9 := congrArg Cp.pc e1
    exact h9
  · have h9 := congrArg Cp.pcs e1
    exact h9
  · have h9 := congrArg Cp.sv e1
    exact h9
  · have h9 := congrArg Cp.sb e1
    exact h9
  · have h9 := congrArg Cp.ps e1
    exact h9
end Go.Proofs.YtopmlmpadkdhjaaGreatDoor
