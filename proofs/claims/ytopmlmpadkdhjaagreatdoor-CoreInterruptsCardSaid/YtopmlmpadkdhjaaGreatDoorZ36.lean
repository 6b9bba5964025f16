/-
  Several texts in one: what is read and written by the functions on the way to the statements. Conditions stand in each theorem.
-/
import Derived.Test.YtopmlmpadkdhjaaGreatDoorZ35
namespace Go.Proofs.YtopmlmpadkdhjaaGreatDoor
open Go.RowKit
set_option linter.unusedSimpArgs false
set_option linter.unusedVariables false
set_option maxRecDepth 20000

theorem wpList_mbin {P : Program} {ops : Array Oper} {rest : List Oper} {o : Oper} {a : Act} {w : World} {Q : Exit → Act → World → Prop} (hgd : Region.wanted o (yielded ops a.tmps) = true) (b : BinOp) (T : TypeId) (x y : Operand) (T2 : TypeId) (ho : o.op = .binOp b T x y T2) (v u r : Value) (hx : a.eval x = v) (hy : a.eval y = u)
    (hr : ∀ w : World, (do eqGuard b T x y v u; binOp b T v u : Sem Value).run P w = .ok r w) (h : wpList P ops Q rest (a.put o.dst r) w) : wpList P ops Q (o :: rest) a w :=
  wpList_want' hgd fun _ hK => by
    unfold Oper.wp execOp
    simp only [ho, hx, hy]
    rw [Sem.run_bind, hr]
    simp only [Sem.run_pure, Result.andThen_ok, Oper.upon]
    exact hK _ _ h
def itA : Nat → Cp
  | 0 => newM
  | n + 1 => takeM (itA n) 18 false false false false
def cpL : Cp := { cp0 with op := 169, t := 1 }
def cpB : Cp := { cp0 with op := 208, t := 1, ps := 2 }
theorem fit_new : Fit newM := by constructor <;> decide
theorem fit_cpL : Fit cpL := by constructor <;> decide
theorem fit_cpB : Fit cpB := by constructor <;> decide
theorem ok_new : okB newM = true := by kernel_rfl
theorem ok_cpL : okB cpL = true := by kernel_rfl
theorem ok_cpB : okB cpB = true := by kernel_rfl
theorem itA_ok : ∀ n, okB (itA n) = true ∧ Fit (itA n)
  | 0 => ⟨ok_new, fit_new⟩
  | n + 1 => by
    obtain ⟨h1, F1⟩ := itA_ok n
    exact ⟨(take_ok _ 18 false false false false F1 h1 (by decide) (by decide)).1, (take_ok _ 18 false false false false F1 h1 (by decide) (by decide)).2.1⟩
theorem it_7 : itA 7 = ⟨0, false, 0, false, 0, false, 253, false, 4, 0, 4626, false, 0, 0, 0, false, 18, false, false, 0, false, false, 0, false, false⟩ := by kernel_rfl
theorem aw_lda : takeM cpL 3 true false false false = ⟨3, true, 0, false, 0, false, 0, false, 0, 130, 1, false, 169, 0, 0, false, 0, false, false, 0, false, false, 0, false, false⟩ := by kernel_rfl
theorem aw_bne : takeM cpB 0 false false false false = ⟨0, false, 0, false, 0, false, 0, false, 0, 2, 1, false, 208, 2, 0, false, 0, false, false, 0, false, false, 0, true, false⟩ := by kernel_rfl
theorem aw_ask : askedM newM = bs0 := by kernel_rfl
theorem build_cpL (w : World) : (Instr.build 28 #[(7, .int .u8 169), (8, .int .i64 1)]).run Tryz.prog w = .ok (.agg (cpC cpL)) w := by kernel_rfl
theorem build_cpB (w : World) : (Instr.build 28 #[(7, .int .u8 208), (8, .int .i64 1), (4, .agg #[.int .u8 0, .int .u8 2])]).run Tryz.prog w = .ok (.agg (cpC cpB)) w := by kernel_rfl
theorem build_fl1 (w : World) : (Instr.build 25 #[(1, .int .u8 2)]).run Tryz.prog w = .ok (.agg #[.int .u8 0, .int .u8 2]) w := by kernel_rfl
theorem build_bs0 (w : World) : (Instr.build 43 #[]).run Tryz.prog w = .ok (.agg (bsC bs0)) w := by kernel_rfl
attribute [local irreducible] wpList
set_option maxHeartbeats 8000000 in
theorem kawake_ct (w : World) (G : GlobO w) : Calls Tryz.prog 10 #[] w fun e w' => e = .returned (.bool true) ∧ Below w.heap.size w w' := by
  have QA := Lib.hid (fun wr (g : GlobO wr) => (show Calls Tryz.prog 14 #[.agg (cpC newM)] wr fun e w' => e = .returned (.agg (bsC bs0)) ∧ Below wr.heap.size wr w' from aw_ask ▸ kask_ct newM fit_new ok_new wr g))
  have QL := Lib.hid (fun wr (g : GlobO wr) => (show Calls Tryz.prog 11 #[.agg (cpC cpL), .agg #[.int .u8 3, .bool true], .agg #[.bool false, .bool false, .bool false]] wr fun e w' => e = .returned (.tuple #[.agg (cpC ⟨3, true, 0, false, 0, false, 0, false, 0, 130, 1, false, 169, 0, 0, false, 0, false, false, 0, false, false, 0, false, false⟩), .int .i64 0]) ∧ Below wr.heap.size wr w' from aw_lda ▸ take_ct cpL 3 true false false false fit_cpL ok_cpL (by decide) (by decide) wr g))
  have QB := Lib.hid (fun wr (g : GlobO wr) => (show Calls Tryz.prog 11 #[.agg (cpC cpB), .agg #[.int .u8 0, .bool false], .agg #[.bool false, .bool false, .bool false]] wr fun e w' => e = .returned (.tuple #[.agg (cpC ⟨0, false, 0, false, 0, false, 0, false, 0, 2, 1, false, 208, 2, 0, false, 0, false, false, 0, false, false, 0, true, false⟩), .int .i64 0]) ∧ Below wr.heap.size wr w' from aw_bne ▸ take_ct cpB 0 false false false false fit_cpB ok_cpB (by decide) (by decide) wr g))
  have HZC := Lib.hid alloc_cpu
  have HZB := Lib.hid alloc_bus
  have GG := Lib.hid G
  clear G
  have H := Mem.start w
  have M1 : True := trivial
  have M2 : True := trivial
  have M3 : True := trivial
  have M4 : True := trivial
  have M5 : True := trivial
  go_enter Tryz.func10, Tryz.ntmps10
  go_wp2_with (first | (go_at_call 35; (with_reducible refine (knew_ct _).mono ?_); rintro e w2 ⟨rfl, hB⟩; replace H := H.next hB; clear hB) | (clear M1; refine wpList_mnew rfl _ rfl H _ HZC.out ?_; clear H; intro Rc w1 _ H) | (refine gate_store _ _ _ rfl ?_; refine wpList_mstoreA rfl 28 _ _ rfl rfl _ rfl 0 H (cpC _) _ rfl rfl (by kernel_rfl) (by kernel_rfl) (by kernel_rfl) ?_; clear H; intro w1 H; simp only [List.set_cons_zero, List.set_cons_succ] at H) | (refine gate_load _ _ rfl ?_; refine wpList_mloadA rfl 28 _ rfl _ rfl 0 H (cpC _) rfl (by decide +kernel) (by kernel_rfl) ?_) | (go_at_call 14; (with_reducible refine (QA.out _ (GG.out.mem H)).mono ?_); rintro e w2 ⟨rfl, hB⟩; replace H := H.next hB; clear hB) | (clear M2; refine wpList_mnew rfl _ rfl H _ HZB.out ?_; clear H; intro Rb w1 _ H) | (refine gate_store _ _ _ rfl ?_; refine wpList_mstoreA rfl 43 _ _ rfl rfl _ rfl 0 H (bsC _) _ rfl rfl (by kernel_rfl) (by kernel_rfl) (by kernel_rfl) ?_; clear H; intro w1 H; simp only [List.set_cons_zero, List.set_cons_succ] at H) | fail)
  go_loopw [3] (fun i wr => ∃ k : Nat, k ≤ 7 ∧ i = .int .i64 (k : Int) ∧ Mem w.heap.size [] w wr [(Rb, bsC bs0), (Rc, cpC (itA k))]) (fun i _ => 8 - (intOf i).toNat)
  case atStart => exact ⟨0, by omega, rfl, H⟩
  case round =>
    clear H
    obtain ⟨k, hk, rfl, H⟩ := hrel
    by_cases hlt : k < 7
    · have QT := Lib.hid (fun wr (g : GlobO wr) => (show Calls Tryz.prog 11 #[.agg (cpC (itA k)), .agg #[.int .u8 18, .bool false], .agg #[.bool false, .bool false, .bool false]] wr fun e w' => e = .returned (.tuple #[.agg (cpC (itA (k + 1))), .int .i64 0]) ∧ Below wr.heap.size wr w' from take_ct (itA k) 18 false false false false (itA_ok k).2 (itA_ok k).1 (by decide) (by decide) wr g))
      have hc : decide ((k : Int) < 7) = true := decide_eq_true (by omega)
      have WK : wrap64 ((k : Int) + 1) = (k : Int) + 1 := w64 _ (by omega) (by omega)
      generalize hq9 : itA (k + 1) = q at *
      generalize itA k = p at *
      have HQ9 := Lib.hid hq9
      clear hq9
      go_wp2_with (first | (refine gate_load _ _ rfl ?_; refine wpList_mloadA rfl 28 _ rfl _ rfl 1 H (cpC _) rfl (by decide +kernel) (by kernel_rfl) ?_) | (refine wpList_mbuildv rfl _ _ rfl _ (by first | (simp only [List.map_toArray, List.map_cons, List.map_nil, Act.eval]; done) | (simp only [List.map_toArray, List.map_cons, List.map_nil, Act.eval]; rfl) | rfl) _ (build_by0 _) ?_) | (refine wpList_mbuildv rfl _ _ rfl _ (by first | (simp only [List.map_toArray, List.map_cons, List.map_nil, Act.eval]; done) | (simp only [List.map_toArray, List.map_cons, List.map_nil, Act.eval]; rfl) | rfl) _ build_ln0 ?_) | (go_at_call 11; (with_reducible refine (QT.out _ (GG.out.mem H)).mono ?_); rintro e w2 ⟨rfl, hB⟩; replace H := H.next hB; clear hB) | (clear M3; refine wpList_mnew rfl _ rfl H _ HZC.out ?_; clear H; intro Rn w1 _ H) | (refine gate_store _ _ _ rfl ?_; refine wpList_mstoreA rfl 28 _ _ rfl rfl _ rfl 0 H (cpC _) _ rfl rfl (by kernel_rfl) (by kernel_rfl) (by kernel_rfl) ?_; clear H; intro w1 H; simp only [List.set_cons_zero, List.set_cons_succ] at H) | (refine gate_load _ _ rfl ?_; refine wpList_mloadA rfl 28 _ rfl _ rfl 0 H (cpC _) rfl (by decide +kernel) (by kernel_rfl) ?_) | (refine gate_store _ _ _ rfl ?_; refine wpList_mstoreA rfl 28 _ _ rfl rfl _ rfl 2 H (cpC _) _ rfl rfl (by kernel_rfl) (by kernel_rfl) (by kernel_rfl) ?_; clear H; intro w1 H; simp only [List.set_cons_zero, List.set_cons_succ] at H) | fail)
      go_roundw
      case rel => exact ⟨k + 1, by omega, by go_num, by rw [HQ9.out]; exact H.sub (List.Sublist.cons _ (List.Sublist.refl _))⟩
      case measure => simp [intOf]; omega
    · obtain rfl : k = 7 := by omega
      rw [it_7] at H
      go_wp2_with (first | (refine wpList_mbuildv rfl _ _ rfl _ (by first | (simp only [List.map_toArray, List.map_cons, List.map_nil, Act.eval]; done) | (simp only [List.map_toArray, List.map_cons, List.map_nil, Act.eval]; rfl) | rfl) _ build_cpL ?_) | (refine wpList_mbuildv rfl _ _ rfl _ (by first | (simp only [List.map_toArray, List.map_cons, List.map_nil, Act.eval]; done) | (simp only [List.map_toArray, List.map_cons, List.map_nil, Act.eval]; rfl) | rfl) _ (build_byb _ _) ?_) | (refine wpList_mbuildv rfl _ _ rfl _ (by first | (simp only [List.map_toArray, List.map_cons, List.map_nil, Act.eval]; done) | (simp only [List.map_toArray, List.map_cons, List.map_nil, Act.eval]; rfl) | rfl) _ build_ln0 ?_) | (go_at_call 11; (with_reducible refine (QL.out _ (GG.out.mem H)).mono ?_); rintro e w2 ⟨rfl, hB⟩; replace H := H.next hB; clear hB) | (clear M4; refine wpList_mnew rfl _ rfl H _ HZC.out ?_; clear H; intro Rl w1 _ H) | (refine gate_store _ _ _ rfl ?_; refine wpList_mstoreA rfl 28 _ _ rfl rfl _ rfl 0 H (cpC _) _ rfl rfl (by kernel_rfl) (by kernel_rfl) (by kernel_rfl) ?_; clear H; intro w1 H; simp only [List.set_cons_zero, List.set_cons_succ] at H) | (refine wpList_mbuildv rfl _ _ rfl _ (by first | (simp only [List.map_toArray, List.map_cons, List.map_nil, Act.eval]; done) | (simp only [List.map_toArray, List.map_cons, List.map_nil, Act.eval]; rfl) | rfl) _ build_fl1 ?_) | (refine wpList_mbuildv rfl _ _ rfl _ (by first | (simp only [List.map_toArray, List.map_cons, List.map_nil, Act.eval]; done) | (simp only [List.map_toArray, List.map_cons, List.map_nil, Act.eval]; rfl) | rfl) _ build_cpB ?_) | (refine wpList_mbuildv rfl _ _ rfl _ (by first | (simp only [List.map_toArray, List.map_cons, List.map_nil, Act.eval]; done) | (simp only [List.map_toArray, List.map_cons, List.map_nil, Act.eval]; rfl) | rfl) _ build_by00 ?_) | (go_at_call 11; (with_reducible refine (QB.out _ (GG.out.mem H)).mono ?_); rintro e w2 ⟨rfl, hB⟩; replace H := H.next hB; clear hB) | (clear M5; refine wpList_mnew rfl _ rfl H _ HZC.out ?_; clear H; intro Rq w1 _ H) | (refine gate_load _ _ rfl ?_; refine wpList_mloadA rfl 43 _ rfl _ rfl 2 H (bsC _) rfl (by decide +kernel) (by kernel_rfl) ?_) | (refine wpList_mbuildv rfl _ _ rfl _ (by first | (simp only [List.map_toArray, List.map_cons, List.map_nil, Act.eval]; done) | (simp only [List.map_toArray, List.map_cons, List.map_nil, Act.eval]; rfl) | rfl) _ build_bs0 ?_) | (refine wpList_mbin rfl _ 43 _ _ _ rfl _ _ (.bool true) rfl rfl (fun _ => by kernel_rfl) ?_) | (refine gate_load _ _ rfl ?_; refine wpList_mload1 rfl _ _ rfl _ _ rfl 3 H _ (.int _ _) rfl rfl (by decide +kernel) ?_) | (refine gate_load _ _ rfl ?_; refine wpList_mload rfl 23 _ rfl _ _ rfl 1 H _ #[.int .u8 _, .bool _] rfl (by decide +kernel) (by kernel_rfl) (part2 rfl rfl) ?_) | (refine wpList_mbin rfl _ 23 _ _ _ rfl _ _ (.bool true) rfl rfl (fun _ => by kernel_rfl) ?_) | (refine gate_load _ _ rfl ?_; refine wpList_mload1 rfl _ _ rfl _ _ rfl 1 H _ (.bool _) rfl rfl (by decide +kernel) ?_) | (refine gate_load _ _ rfl ?_; refine wpList_mload1 rfl _ _ rfl _ _ rfl 0 H _ (.bool _) rfl rfl (by decide +kernel) ?_) | fail)
      go_ret
      exact ⟨rfl, H.toBelow⟩
end Go.Proofs.YtopmlmpadkdhjaaGreatDoor
