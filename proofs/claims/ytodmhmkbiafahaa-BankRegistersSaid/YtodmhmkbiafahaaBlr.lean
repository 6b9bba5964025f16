/-
  The walk of BankRegisters. Over this seat's translation; octets are from 0 to 255, addresses from 0 to 65535.
-/
import Derived.Test.YtodmhmkbiafahaaBlw
import Derived.Test.YtodmhmkbiafahaaSts
namespace Go.Proofs.Ytodmhmkbiafahaa
open Go.RowKit
set_option linter.unusedSimpArgs false
set_option linter.unusedVariables false
set_option maxRecDepth 20000

/-- A mapper with what has nothing to do with banks taken from another one. -/
def regsM (m o : Mp) : Mp := { m with v := o.v, f := o.f, la := o.la, lt := o.lt, cn := o.cn, rl := o.rl, en := o.en, iq := o.iq, mi := o.mi }
theorem regs_oct (m o : Mp) (ok : m.oct) (oo : o.oct) : (regsM m o).oct := by
  obtain ⟨osh, oct, ocl, oc0, oc1, opr, obk, ose, omi, or0, or1, or2, or3, or4, or5, or6, or7, olt, ocn⟩ := ok
  obtain ⟨psh, pct, pcl, pc0, pc1, ppr, pbk, pse, pmi, pr0, pr1, pr2, pr3, pr4, pr5, pr6, pr7, plt, pcn⟩ := oo
  exact ⟨osh, oct, ocl, oc0, oc1, opr, obk, ose, pmi, or0, or1, or2, or3, or4, or5, or6, or7, plt, pcn⟩
theorem regs_prg (m o : Mp) (s a : Int) : prgV (regsM m o) s a = prgV m s a := rfl
theorem regs_chr (m o : Mp) (s a : Int) : chrV (regsM m o) s a = chrV m s a := rfl
theorem regs_okp (m o : Mp) (s a : Int) : okP (regsM m o) s a = okP m s a := rfl
theorem regs_okc (m o : Mp) (s a : Int) : okC (regsM m o) s a = okC m s a := rfl
set_option maxHeartbeats 4000000 in
theorem regs_walk (m : Mp) (s a : Int) (o : Mp) (w : World) (ok : m.oct) (oo : o.oct) (a0 : 0 ≤ a) (a1 : a < 65536) : Calls Try.prog 6 #[.agg (bskC m s a), .agg (mpC o)] w fun e w' => e = .returned (.bool true) ∧ Below w.heap.size w w' := by
  have Q1 := Lib.hid (fun wr => bprg_ct m ok s a wr a0 a1)
  have K2 := fun wr => bprg_ct (regsM m o) (regs_oct m o ok oo) s a wr a0 a1
  have Q3 := Lib.hid (fun wr => bchr_ct m ok s a wr a0 a1)
  have K4 := fun wr => bchr_ct (regsM m o) (regs_oct m o ok oo) s a wr a0 a1
  rw [regs_prg, regs_okp] at K2
  rw [regs_chr, regs_okc] at K4
  have Q2 := Lib.hid K2
  have Q4 := Lib.hid K4
  have QA := Lib.hid (fun wr => bawake_ct wr)
  unfold mpV at Q1 Q2 Q3 Q4
  have HZ := Lib.hid alloc_mapb
  have H := Mem.start w
  clear ok oo K2 K4
  go_enter Try.func6, Try.ntmps6
  go_wp2_with (first
    | (refine wpList_mboxA rfl _ _ rfl H (bskC m s a) rfl ?_; clear H; intro R1 w1 _ H)
    | (refine wpList_mboxA rfl _ _ rfl H (mpC o) rfl ?_; clear H; intro R2 w1 _ H)
    | go_skip | (refine gate_load _ _ rfl ?_; first | (refine wpList_mload rfl _ _ rfl _ _ rfl 0 H _ (mpC m) rfl (by decide +kernel) (by kernel_rfl) (bsk_part m s a) ?_) | (refine wpList_mload rfl _ _ rfl _ _ rfl 1 H _ (mpC m) rfl (by decide +kernel) (by kernel_rfl) (bsk_part m s a) ?_) | (refine wpList_mload rfl _ _ rfl _ _ rfl 2 H _ (mpC m) rfl (by decide +kernel) (by kernel_rfl) (bsk_part m s a) ?_))
    | go_skip | (refine wpList_mboxA rfl _ _ rfl H _ rfl ?_; clear H; intro _ w1 _ H) | (refine gate_load _ _ rfl ?_; first | (refine wpList_mloadA rfl _ _ rfl _ rfl 0 H _ rfl (by decide +kernel) (by kernel_rfl) ?_) | (refine wpList_mloadA rfl _ _ rfl _ rfl 1 H _ rfl (by decide +kernel) (by kernel_rfl) ?_) | (refine wpList_mloadA rfl _ _ rfl _ rfl 2 H _ rfl (by decide +kernel) (by kernel_rfl) ?_) | (refine wpList_mload1 rfl _ _ rfl _ _ rfl 0 H _ (.int _ _) rfl rfl (by decide +kernel) ?_) | (refine wpList_mload1 rfl _ _ rfl _ _ rfl 1 H _ (.int _ _) rfl rfl (by decide +kernel) ?_) | (refine wpList_mload1 rfl _ _ rfl _ _ rfl 2 H _ (.int _ _) rfl rfl (by decide +kernel) ?_) | (refine wpList_mload1 rfl _ _ rfl _ _ rfl 0 H _ (.bool _) rfl rfl (by decide +kernel) ?_) | (refine wpList_mload1 rfl _ _ rfl _ _ rfl 1 H _ (.bool _) rfl rfl (by decide +kernel) ?_) | (refine wpList_mload1 rfl _ _ rfl _ _ rfl 2 H _ (.bool _) rfl rfl (by decide +kernel) ?_) | (refine wpList_mload1 rfl _ _ rfl _ _ rfl 0 H _ (.pointer _) rfl rfl (by decide +kernel) ?_) | (refine wpList_mload1 rfl _ _ rfl _ _ rfl 1 H _ (.pointer _) rfl rfl (by decide +kernel) ?_) | (refine wpList_mload1 rfl _ _ rfl _ _ rfl 2 H _ (.pointer _) rfl rfl (by decide +kernel) ?_) | (refine wpList_mload1 rfl _ _ rfl _ _ rfl 0 H _ (.string _) rfl rfl (by decide +kernel) ?_) | (refine wpList_mload1 rfl _ _ rfl _ _ rfl 1 H _ (.string _) rfl rfl (by decide +kernel) ?_) | (refine wpList_mload1 rfl _ _ rfl _ _ rfl 2 H _ (.string _) rfl rfl (by decide +kernel) ?_) | (refine wpList_mload1 rfl _ _ rfl _ _ rfl 0 H _ (.slice _ _ _) rfl rfl (by decide +kernel) ?_) | (refine wpList_mload1 rfl _ _ rfl _ _ rfl 1 H _ (.slice _ _ _) rfl rfl (by decide +kernel) ?_) | (refine wpList_mload1 rfl _ _ rfl _ _ rfl 2 H _ (.slice _ _ _) rfl rfl (by decide +kernel) ?_)) | (refine gate_store _ _ _ rfl ?_; (first | (refine wpList_mstoreA rfl _ _ _ rfl rfl _ rfl 0 H _ _ rfl rfl (by kernel_rfl) (by kernel_rfl) (by kernel_rfl) ?_) | (refine wpList_mstoreA rfl _ _ _ rfl rfl _ rfl 1 H _ _ rfl rfl (by kernel_rfl) (by kernel_rfl) (by kernel_rfl) ?_) | (refine wpList_mstoreA rfl _ _ _ rfl rfl _ rfl 2 H _ _ rfl rfl (by kernel_rfl) (by kernel_rfl) (by kernel_rfl) ?_) | (refine wpList_mstore rfl _ _ _ rfl rfl _ _ rfl 0 H _ _ rfl (.int _ _) rfl (by kernel_rfl) (of_decide_eq_true (by kernel_rfl)) (by kernel_rfl) rfl ?_) | (refine wpList_mstore rfl _ _ _ rfl rfl _ _ rfl 1 H _ _ rfl (.int _ _) rfl (by kernel_rfl) (of_decide_eq_true (by kernel_rfl)) (by kernel_rfl) rfl ?_) | (refine wpList_mstore rfl _ _ _ rfl rfl _ _ rfl 2 H _ _ rfl (.int _ _) rfl (by kernel_rfl) (of_decide_eq_true (by kernel_rfl)) (by kernel_rfl) rfl ?_) | (refine wpList_mstore rfl _ _ _ rfl rfl _ _ rfl 0 H _ _ rfl (.bool _) rfl (by kernel_rfl) (of_decide_eq_true (by kernel_rfl)) (by kernel_rfl) rfl ?_) | (refine wpList_mstore rfl _ _ _ rfl rfl _ _ rfl 1 H _ _ rfl (.bool _) rfl (by kernel_rfl) (of_decide_eq_true (by kernel_rfl)) (by kernel_rfl) rfl ?_) | (refine wpList_mstore rfl _ _ _ rfl rfl _ _ rfl 2 H _ _ rfl (.bool _) rfl (by kernel_rfl) (of_decide_eq_true (by kernel_rfl)) (by kernel_rfl) rfl ?_) | (refine wpList_mstore rfl _ _ _ rfl rfl _ _ rfl 0 H _ _ rfl (.pointer _) rfl (by kernel_rfl) (of_decide_eq_true (by kernel_rfl)) (by kernel_rfl) rfl ?_) | (refine wpList_mstore rfl _ _ _ rfl rfl _ _ rfl 1 H _ _ rfl (.pointer _) rfl (by kernel_rfl) (of_decide_eq_true (by kernel_rfl)) (by kernel_rfl) rfl ?_) | (refine wpList_mstore rfl _ _ _ rfl rfl _ _ rfl 2 H _ _ rfl (.pointer _) rfl (by kernel_rfl) (of_decide_eq_true (by kernel_rfl)) (by kernel_rfl) rfl ?_) | (refine wpList_mstore rfl _ _ _ rfl rfl _ _ rfl 0 H _ _ rfl (.string _) rfl (by kernel_rfl) (of_decide_eq_true (by kernel_rfl)) (by kernel_rfl) rfl ?_) | (refine wpList_mstore rfl _ _ _ rfl rfl _ _ rfl 1 H _ _ rfl (.string _) rfl (by kernel_rfl) (of_decide_eq_true (by kernel_rfl)) (by kernel_rfl) rfl ?_) | (refine wpList_mstore rfl _ _ _ rfl rfl _ _ rfl 2 H _ _ rfl (.string _) rfl (by kernel_rfl) (of_decide_eq_true (by kernel_rfl)) (by kernel_rfl) rfl ?_) | (refine wpList_mstore rfl _ _ _ rfl rfl _ _ rfl 0 H _ _ rfl (.slice _ _ _) rfl (by kernel_rfl) (of_decide_eq_true (by kernel_rfl)) (by kernel_rfl) rfl ?_) | (refine wpList_mstore rfl _ _ _ rfl rfl _ _ rfl 1 H _ _ rfl (.slice _ _ _) rfl (by kernel_rfl) (of_decide_eq_true (by kernel_rfl)) (by kernel_rfl) rfl ?_) | (refine wpList_mstore rfl _ _ _ rfl rfl _ _ rfl 2 H _ _ rfl (.slice _ _ _) rfl (by kernel_rfl) (of_decide_eq_true (by kernel_rfl)) (by kernel_rfl) rfl ?_)); clear H; intro w1 H; simp only [List.set_cons_zero, List.set_cons_succ, mp_all] at H)
    | (refine wpList_mnew rfl _ rfl H _ HZ.out ?_; clear H; intro R3 w1 _ H)
    | fail)
  (try simp only [Act.put, List.setIfInBounds_toArray, List.set_cons_succ, List.set_cons_zero])
  replace H : Mem w.heap.size [] w w1 ((R3, mpC m) :: (R2, mpC o) :: [(R1, bskC m s a)]) := H
  -- REGION
  refine wp_region_settled (by kernel_rfl) (by kernel_rfl) (fun q => [(some 16, .pointer (some ⟨R2, 1, none⟩)), (some 17, .bool o.v), (some 18, .pointer (some ⟨R2, 2, none⟩)), (some 19, .bool o.f), (some 20, .pointer (some ⟨R2, 9, none⟩)), (some 21, .int .i64 o.la), (some 22, .pointer (some ⟨R2, 21, none⟩)), (some 23, .int .u8 o.lt), (some 24, .pointer (some ⟨R2, 22, none⟩)), (some 25, .int .u8 o.cn), (some 26, .pointer (some ⟨R2, 23, none⟩)), (some 27, .bool o.rl), (some 28, .pointer (some ⟨R2, 24, none⟩)), (some 29, .bool o.en), (some 30, .pointer (some ⟨R2, 25, none⟩)), (some 31, .bool o.iq), (some 32, .pointer (some ⟨R2, 12, none⟩)), (some 33, .int .u8 o.mi), (some 34, .pointer (some ⟨R3, 1, none⟩)), (none, undef), (some 35, .pointer (some ⟨R3, 2, none⟩)), (none, undef), (some 36, .pointer (some ⟨R3, 9, none⟩)), (none, undef), (some 37, .pointer (some ⟨R3, 21, none⟩)), (none, undef), (some 38, .pointer (some ⟨R3, 22, none⟩)), (none, undef), (some 39, .pointer (some ⟨R3, 23, none⟩)), (none, undef), (some 40, .pointer (some ⟨R3, 24, none⟩)), (none, undef), (some 41, .pointer (some ⟨R3, 25, none⟩)), (none, undef), (some 42, .pointer (some ⟨R3, 12, none⟩)), (none, undef)]) (WSt _ _ _ [19, 21, 23, 25, 27, 29, 31, 33, 35] R3 (fun j => if j = 0 then mpC m else if j = 1 then mpC { m with v := o.v } else if j = 2 then mpC { m with v := o.v, f := o.f } else if j = 3 then mpC { m with v := o.v, f := o.f, la := o.la } else if j = 4 then mpC { m with v := o.v, f := o.f, la := o.la, lt := o.lt } else if j = 5 then mpC { m with v := o.v, f := o.f, la := o.la, lt := o.lt, cn := o.cn } else if j = 6 then mpC { m with v := o.v, f := o.f, la := o.la, lt := o.lt, cn := o.cn, rl := o.rl } else if j = 7 then mpC { m with v := o.v, f := o.f, la := o.la, lt := o.lt, cn := o.cn, rl := o.rl, en := o.en } else if j = 8 then mpC { m with v := o.v, f := o.f, la := o.la, lt := o.lt, cn := o.cn, rl := o.rl, en := o.en, iq := o.iq } else mpC { m with v := o.v, f := o.f, la := o.la, lt := o.lt, cn := o.cn, rl := o.rl, en := o.en, iq := o.iq, mi := o.mi }) ((R2, mpC o) :: [(R1, bskC m s a)])) 102 (by rfl) (fun _ => by rfl) (fun _ => by rfl) (fun _ => by rfl) (WSt.start H) ⟨?p0, ?p1, ?p2, ?p3, ?p4, ?p5, ?p6, ?p7, ?p8, ?p9, ?p10, ?p11, ?p12, ?p13, ?p14, ?p15, ?p16, ?p17, ?p18, ?p19, ?p20, ?p21, ?p22, ?p23, ?p24, ?p25, ?p26, ?p27, ?p28, ?p29, ?p30, ?p31, ?p32, ?p33, ?p34, ?p35, trivial⟩ ?_
  case p0 =>
    intro D q a' w' hk he hl hW
    have f3 : a'.tmps.getD 3 undef = .pointer (some ⟨R2, 0, none⟩) := (hl 3).trans ((lookS_absent _ 0 (by simp)).trans rfl)
    exact wp_val (.pointer (some ⟨R2, 1, none⟩)) (by simp only [execOp, Act.eval]; rw [f3]; kernel_rfl) ⟨q, fun _ => rfl, ⟨_, rfl, rfl⟩, hW.keep (by decide)⟩
  case p1 =>
    intro D q a' w' hk he hl hW
    have e0 := (hl 16).trans (lookS_at rfl (he ⟨0, .data⟩ (by simp) rfl) rfl)
    exact wp_sload1 _ _ rfl _ _ e0 0 hW.base (mpC o) (.bool o.v) rfl rfl (by decide +kernel) ⟨q, fun _ => rfl, ⟨_, rfl, rfl⟩, hW.keep (by decide)⟩
  case p2 =>
    intro D q a' w' hk he hl hW
    have f3 : a'.tmps.getD 3 undef = .pointer (some ⟨R2, 0, none⟩) := (hl 3).trans ((lookS_absent _ 0 (by simp)).trans rfl)
    exact wp_val (.pointer (some ⟨R2, 2, none⟩)) (by simp only [execOp, Act.eval]; rw [f3]; kernel_rfl) ⟨q, fun _ => rfl, ⟨_, rfl, rfl⟩, hW.keep (by decide)⟩
  case p3 =>
    intro D q a' w' hk he hl hW
    have e2 := (hl 18).trans (lookS_at rfl (he ⟨2, .data⟩ (by simp) rfl) rfl)
    exact wp_sload1 _ _ rfl _ _ e2 0 hW.base (mpC o) (.bool o.f) rfl rfl (by decide +kernel) ⟨q, fun _ => rfl, ⟨_, rfl, rfl⟩, hW.keep (by decide)⟩
  case p4 =>
    intro D q a' w' hk he hl hW
    have f3 : a'.tmps.getD 3 undef = .pointer (some ⟨R2, 0, none⟩) := (hl 3).trans ((lookS_absent _ 0 (by simp)).trans rfl)
    exact wp_val (.pointer (some ⟨R2, 9, none⟩)) (by simp only [execOp, Act.eval]; rw [f3]; kernel_rfl) ⟨q, fun _ => rfl, ⟨_, rfl, rfl⟩, hW.keep (by decide)⟩
  case p5 =>
    intro D q a' w' hk he hl hW
    have e4 := (hl 20).trans (lookS_at rfl (he ⟨4, .data⟩ (by simp) rfl) rfl)
    exact wp_sload1 _ _ rfl _ _ e4 0 hW.base (mpC o) (.int .i64 o.la) rfl rfl (by decide +kernel) ⟨q, fun _ => rfl, ⟨_, rfl, rfl⟩, hW.keep (by decide)⟩
  case p6 =>
    intro D q a' w' hk he hl hW
    have f3 : a'.tmps.getD 3 undef = .pointer (some ⟨R2, 0, none⟩) := (hl 3).trans ((lookS_absent _ 0 (by simp)).trans rfl)
    exact wp_val (.pointer (some ⟨R2, 21, none⟩)) (by simp only [execOp, Act.eval]; rw [f3]; kernel_rfl) ⟨q, fun _ => rfl, ⟨_, rfl, rfl⟩, hW.keep (by decide)⟩
  case p7 =>
    intro D q a' w' hk he hl hW
    have e6 := (hl 22).trans (lookS_at rfl (he ⟨6, .data⟩ (by simp) rfl) rfl)
    exact wp_sload1 _ _ rfl _ _ e6 0 hW.base (mpC o) (.int .u8 o.lt) rfl rfl (by decide +kernel) ⟨q, fun _ => rfl, ⟨_, rfl, rfl⟩, hW.keep (by decide)⟩
  case p8 =>
    intro D q a' w' hk he hl hW
    have f3 : a'.tmps.getD 3 undef = .pointer (some ⟨R2, 0, none⟩) := (hl 3).trans ((lookS_absent _ 0 (by simp)).trans rfl)
    exact wp_val (.pointer (some ⟨R2, 22, none⟩)) (by simp only [execOp, Act.eval]; rw [f3]; kernel_rfl) ⟨q, fun _ => rfl, ⟨_, rfl, rfl⟩, hW.keep (by decide)⟩
  case p9 =>
    intro D q a' w' hk he hl hW
    have e8 := (hl 24).trans (lookS_at rfl (he ⟨8, .data⟩ (by simp) rfl) rfl)
    exact wp_sload1 _ _ rfl _ _ e8 0 hW.base (mpC o) (.int .u8 o.cn) rfl rfl (by decide +kernel) ⟨q, fun _ => rfl, ⟨_, rfl, rfl⟩, hW.keep (by decide)⟩
  case p10 =>
    intro D q a' w' hk he hl hW
    have f3 : a'.tmps.getD 3 undef = .pointer (some ⟨R2, 0, none⟩) := (hl 3).trans ((lookS_absent _ 0 (by simp)).trans rfl)
    exact wp_val (.pointer (some ⟨R2, 23, none⟩)) (by simp only [execOp, Act.eval]; rw [f3]; kernel_rfl) ⟨q, fun _ => rfl, ⟨_, rfl, rfl⟩, hW.keep (by decide)⟩
  case p11 =>
    intro D q a' w' hk he hl hW
    have e10 := (hl 26).trans (lookS_at rfl (he ⟨10, .data⟩ (by simp) rfl) rfl)
    exact wp_sload1 _ _ rfl _ _ e10 0 hW.base (mpC o) (.bool o.rl) rfl rfl (by decide +kernel) ⟨q, fun _ => rfl, ⟨_, rfl, rfl⟩, hW.keep (by decide)⟩
  case p12 =>
    intro D q a' w' hk he hl hW
    have f3 : a'.tmps.getD 3 undef = .pointer (some ⟨R2, 0, none⟩) := (hl 3).trans ((lookS_absent _ 0 (by simp)).trans rfl)
    exact wp_val (.pointer (some ⟨R2, 24, none⟩)) (by simp only [execOp, Act.eval]; rw [f3]; kernel_rfl) ⟨q, fun _ => rfl, ⟨_, rfl, rfl⟩, hW.keep (by decide)⟩
  case p13 =>
    intro D q a' w' hk he hl hW
    have e12 := (hl 28).trans (lookS_at rfl (he ⟨12, .data⟩ (by simp) rfl) rfl)
    exact wp_sload1 _ _ rfl _ _ e12 0 hW.base (mpC o) (.bool o.en) rfl rfl (by decide +kernel) ⟨q, fun _ => rfl, ⟨_, rfl, rfl⟩, hW.keep (by decide)⟩
  case p14 =>
    intro D q a' w' hk he hl hW
    have f3 : a'.tmps.getD 3 undef = .pointer (some ⟨R2, 0, none⟩) := (hl 3).trans ((lookS_absent _ 0 (by simp)).trans rfl)
    exact wp_val (.pointer (some ⟨R2, 25, none⟩)) (by simp only [execOp, Act.eval]; rw [f3]; kernel_rfl) ⟨q, fun _ => rfl, ⟨_, rfl, rfl⟩, hW.keep (by decide)⟩
  case p15 =>
    intro D q a' w' hk he hl hW
    have e14 := (hl 30).trans (lookS_at rfl (he ⟨14, .data⟩ (by simp) rfl) rfl)
    exact wp_sload1 _ _ rfl _ _ e14 0 hW.base (mpC o) (.bool o.iq) rfl rfl (by decide +kernel) ⟨q, fun _ => rfl, ⟨_, rfl, rfl⟩, hW.keep (by decide)⟩
  case p16 =>
    intro D q a' w' hk he hl hW
    have f3 : a'.tmps.getD 3 undef = .pointer (some ⟨R2, 0, none⟩) := (hl 3).trans ((lookS_absent _ 0 (by simp)).trans rfl)
    exact wp_val (.pointer (some ⟨R2, 12, none⟩)) (by simp only [execOp, Act.eval]; rw [f3]; kernel_rfl) ⟨q, fun _ => rfl, ⟨_, rfl, rfl⟩, hW.keep (by decide)⟩
  case p17 =>
    intro D q a' w' hk he hl hW
    have e16 := (hl 32).trans (lookS_at rfl (he ⟨16, .data⟩ (by simp) rfl) rfl)
    exact wp_sload1 _ _ rfl _ _ e16 0 hW.base (mpC o) (.int .u8 o.mi) rfl rfl (by decide +kernel) ⟨q, fun _ => rfl, ⟨_, rfl, rfl⟩, hW.keep (by decide)⟩
  case p18 =>
    intro D q a' w' hk he hl hW
    have f5 : a'.tmps.getD 5 undef = .pointer (some ⟨R3, 0, none⟩) := (hl 5).trans ((lookS_absent _ 0 (by simp)).trans rfl)
    exact wp_val (.pointer (some ⟨R3, 1, none⟩)) (by simp only [execOp, Act.eval]; rw [f5]; kernel_rfl) ⟨q, fun _ => rfl, ⟨_, rfl, rfl⟩, hW.keep (by decide)⟩
  case p19 =>
    intro D q a' w' hk he hl hW
    have e18 := (hl 34).trans (lookS_at rfl (he ⟨18, .data⟩ (by simp) rfl) rfl)
    have e1 := (hl 17).trans (lookS_at rfl (he ⟨1, .data⟩ (by simp) rfl) rfl)
    have hp : ∀ t, [19, 21, 23, 25, 27, 29, 31, 33, 35][0 - 1]? = some t → 0 < 0 → D t = true := fun t ht h0 => absurd h0 (by decide)
    exact wp_sstore1 _ _ _ rfl rfl _ _ e18 0 (hW.at 0 19 rfl hk hp) (mpC m) (mpC { m with v := o.v }) rfl _ e1 (by kernel_rfl) (of_decide_eq_true (by kernel_rfl)) (by kernel_rfl) rfl fun w1 hM => ⟨q, fun _ => rfl, ⟨undef, rfl, rfl⟩, hW.put 0 19 rfl hk hp (by decide) hM⟩
  case p20 =>
    intro D q a' w' hk he hl hW
    have f5 : a'.tmps.getD 5 undef = .pointer (some ⟨R3, 0, none⟩) := (hl 5).trans ((lookS_absent _ 0 (by simp)).trans rfl)
    exact wp_val (.pointer (some ⟨R3, 2, none⟩)) (by simp only [execOp, Act.eval]; rw [f5]; kernel_rfl) ⟨q, fun _ => rfl, ⟨_, rfl, rfl⟩, hW.keep (by decide)⟩
  case p21 =>
    intro D q a' w' hk he hl hW
    have e20 := (hl 35).trans (lookS_at rfl (he ⟨20, .data⟩ (by simp) rfl) rfl)
    have e3 := (hl 19).trans (lookS_at rfl (he ⟨3, .data⟩ (by simp) rfl) rfl)
    have hp : ∀ t, [19, 21, 23, 25, 27, 29, 31, 33, 35][1 - 1]? = some t → 0 < 1 → D t = true := fun t ht _ => by obtain rfl := Option.some.inj ht; exact he ⟨19, .chain⟩ (by simp) rfl
    exact wp_sstore1 _ _ _ rfl rfl _ _ e20 0 (hW.at 1 21 rfl hk hp) (mpC { m with v := o.v }) (mpC { m with v := o.v, f := o.f }) rfl _ e3 (by kernel_rfl) (of_decide_eq_true (by kernel_rfl)) (by kernel_rfl) rfl fun w1 hM => ⟨q, fun _ => rfl, ⟨undef, rfl, rfl⟩, hW.put 1 21 rfl hk hp (by decide) hM⟩
  case p22 =>
    intro D q a' w' hk he hl hW
    have f5 : a'.tmps.getD 5 undef = .pointer (some ⟨R3, 0, none⟩) := (hl 5).trans ((lookS_absent _ 0 (by simp)).trans rfl)
    exact wp_val (.pointer (some ⟨R3, 9, none⟩)) (by simp only [execOp, Act.eval]; rw [f5]; kernel_rfl) ⟨q, fun _ => rfl, ⟨_, rfl, rfl⟩, hW.keep (by decide)⟩
  case p23 =>
    intro D q a' w' hk he hl hW
    have e22 := (hl 36).trans (lookS_at rfl (he ⟨22, .data⟩ (by simp) rfl) rfl)
    have e5 := (hl 21).trans (lookS_at rfl (he ⟨5, .data⟩ (by simp) rfl) rfl)
    have hp : ∀ t, [19, 21, 23, 25, 27, 29, 31, 33, 35][2 - 1]? = some t → 0 < 2 → D t = true := fun t ht _ => by obtain rfl := Option.some.inj ht; exact he ⟨21, .chain⟩ (by simp) rfl
    exact wp_sstore1 _ _ _ rfl rfl _ _ e22 0 (hW.at 2 23 rfl hk hp) (mpC { m with v := o.v, f := o.f }) (mpC { m with v := o.v, f := o.f, la := o.la }) rfl _ e5 (by kernel_rfl) (of_decide_eq_true (by kernel_rfl)) (by kernel_rfl) rfl fun w1 hM => ⟨q, fun _ => rfl, ⟨undef, rfl, rfl⟩, hW.put 2 23 rfl hk hp (by decide) hM⟩
  case p24 =>
    intro D q a' w' hk he hl hW
    have f5 : a'.tmps.getD 5 undef = .pointer (some ⟨R3, 0, none⟩) := (hl 5).trans ((lookS_absent _ 0 (by simp)).trans rfl)
    exact wp_val (.pointer (some ⟨R3, 21, none⟩)) (by simp only [execOp, Act.eval]; rw [f5]; kernel_rfl) ⟨q, fun _ => rfl, ⟨_, rfl, rfl⟩, hW.keep (by decide)⟩
  case p25 =>
    intro D q a' w' hk he hl hW
    have e24 := (hl 37).trans (lookS_at rfl (he ⟨24, .data⟩ (by simp) rfl) rfl)
    have e7 := (hl 23).trans (lookS_at rfl (he ⟨7, .data⟩ (by simp) rfl) rfl)
    have hp : ∀ t, [19, 21, 23, 25, 27, 29, 31, 33, 35][3 - 1]? = some t → 0 < 3 → D t = true := fun t ht _ => by obtain rfl := Option.some.inj ht; exact he ⟨23, .chain⟩ (by simp) rfl
    exact wp_sstore1 _ _ _ rfl rfl _ _ e24 0 (hW.at 3 25 rfl hk hp) (mpC { m with v := o.v, f := o.f, la := o.la }) (mpC { m with v := o.v, f := o.f, la := o.la, lt := o.lt }) rfl _ e7 (by kernel_rfl) (of_decide_eq_true (by kernel_rfl)) (by kernel_rfl) rfl fun w1 hM => ⟨q, fun _ => rfl, ⟨undef, rfl, rfl⟩, hW.put 3 25 rfl hk hp (by decide) hM⟩
  case p26 =>
    intro D q a' w' hk he hl hW
    have f5 : a'.tmps.getD 5 undef = .pointer (some ⟨R3, 0, none⟩) := (hl 5).trans ((lookS_absent _ 0 (by simp)).trans rfl)
    exact wp_val (.pointer (some ⟨R3, 22, none⟩)) (by simp only [execOp, Act.eval]; rw [f5]; kernel_rfl) ⟨q, fun _ => rfl, ⟨_, rfl, rfl⟩, hW.keep (by decide)⟩
  case p27 =>
    intro D q a' w' hk he hl hW
    have e26 := (hl 38).trans (lookS_at rfl (he ⟨26, .data⟩ (by simp) rfl) rfl)
    have e9 := (hl 25).trans (lookS_at rfl (he ⟨9, .data⟩ (by simp) rfl) rfl)
    have hp : ∀ t, [19, 21, 23, 25, 27, 29, 31, 33, 35][4 - 1]? = some t → 0 < 4 → D t = true := fun t ht _ => by obtain rfl := Option.some.inj ht; exact he ⟨25, .chain⟩ (by simp) rfl
    exact wp_sstore1 _ _ _ rfl rfl _ _ e26 0 (hW.at 4 27 rfl hk hp) (mpC { m with v := o.v, f := o.f, la := o.la, lt := o.lt }) (mpC { m with v := o.v, f := o.f, la := o.la, lt := o.lt, cn := o.cn }) rfl _ e9 (by kernel_rfl) (of_decide_eq_true (by kernel_rfl)) (by kernel_rfl) rfl fun w1 hM => ⟨q, fun _ => rfl, ⟨undef, rfl, rfl⟩, hW.put 4 27 rfl hk hp (by decide) hM⟩
  case p28 =>
    intro D q a' w' hk he hl hW
    have f5 : a'.tmps.getD 5 undef = .pointer (some ⟨R3, 0, none⟩) := (hl 5).trans ((lookS_absent _ 0 (by simp)).trans rfl)
    exact wp_val (.pointer (some ⟨R3, 23, none⟩)) (by simp only [execOp, Act.eval]; rw [f5]; kernel_rfl) ⟨q, fun _ => rfl, ⟨_, rfl, rfl⟩, hW.keep (by decide)⟩
  case p29 =>
    intro D q a' w' hk he hl hW
    have e28 := (hl 39).trans (lookS_at rfl (he ⟨28, .data⟩ (by simp) rfl) rfl)
    have e11 := (hl 27).trans (lookS_at rfl (he ⟨11, .data⟩ (by simp) rfl) rfl)
    have hp : ∀ t, [19, 21, 23, 25, 27, 29, 31, 33, 35][5 - 1]? = some t → 0 < 5 → D t = true := fun t ht _ => by obtain rfl := Option.some.inj ht; exact he ⟨27, .chain⟩ (by simp) rfl
    exact wp_sstore1 _ _ _ rfl rfl _ _ e28 0 (hW.at 5 29 rfl hk hp) (mpC { m with v := o.v, f := o.f, la := o.la, lt := o.lt, cn := o.cn }) (mpC { m with v := o.v, f := o.f, la := o.la, lt := o.lt, cn := o.cn, rl := o.rl }) rfl _ e11 (by kernel_rfl) (of_decide_eq_true (by kernel_rfl)) (by kernel_rfl) rfl fun w1 hM => ⟨q, fun _ => rfl, ⟨undef, rfl, rfl⟩, hW.put 5 29 rfl hk hp (by decide) hM⟩
  case p30 =>
    intro D q a' w' hk he hl hW
    have f5 : a'.tmps.getD 5 undef = .pointer (some ⟨R3, 0, none⟩) := (hl 5).trans ((lookS_absent _ 0 (by simp)).trans rfl)
    exact wp_val (.pointer (some ⟨R3, 24, none⟩)) (by simp only [execOp, Act.eval]; rw [f5]; kernel_rfl) ⟨q, fun _ => rfl, ⟨_, rfl, rfl⟩, hW.keep (by decide)⟩
  case p31 =>
    intro D q a' w' hk he hl hW
    have e30 := (hl 40).trans (lookS_at rfl (he ⟨30, .data⟩ (by simp) rfl) rfl)
    have e13 := (hl 29).trans (lookS_at rfl (he ⟨13, .data⟩ (by simp) rfl) rfl)
    have hp : ∀ t, [19, 21, 23, 25, 27, 29, 31, 33, 35][6 - 1]? = some t → 0 < 6 → D t = true := fun t ht _ => by obtain rfl := Option.some.inj ht; exact he ⟨29, .chain⟩ (by simp) rfl
    exact wp_sstore1 _ _ _ rfl rfl _ _ e30 0 (hW.at 6 31 rfl hk hp) (mpC { m with v := o.v, f := o.f, la := o.la, lt := o.lt, cn := o.cn, rl := o.rl }) (mpC { m with v := o.v, f := o.f, la := o.la, lt := o.lt, cn := o.cn, rl := o.rl, en := o.en }) rfl _ e13 (by kernel_rfl) (of_decide_eq_true (by kernel_rfl)) (by kernel_rfl) rfl fun w1 hM => ⟨q, fun _ => rfl, ⟨undef, rfl, rfl⟩, hW.put 6 31 rfl hk hp (by decide) hM⟩
  case p32 =>
    intro D q a' w' hk he hl hW
    have f5 : a'.tmps.getD 5 undef = .pointer (some ⟨R3, 0, none⟩) := (hl 5).trans ((lookS_absent _ 0 (by simp)).trans rfl)
    exact wp_val (.pointer (some ⟨R3, 25, none⟩)) (by simp only [execOp, Act.eval]; rw [f5]; kernel_rfl) ⟨q, fun _ => rfl, ⟨_, rfl, rfl⟩, hW.keep (by decide)⟩
  case p33 =>
    intro D q a' w' hk he hl hW
    have e32 := (hl 41).trans (lookS_at rfl (he ⟨32, .data⟩ (by simp) rfl) rfl)
    have e15 := (hl 31).trans (lookS_at rfl (he ⟨15, .data⟩ (by simp) rfl) rfl)
    have hp : ∀ t, [19, 21, 23, 25, 27, 29, 31, 33, 35][7 - 1]? = some t → 0 < 7 → D t = true := fun t ht _ => by obtain rfl := Option.some.inj ht; exact he ⟨31, .chain⟩ (by simp) rfl
    exact wp_sstore1 _ _ _ rfl rfl _ _ e32 0 (hW.at 7 33 rfl hk hp) (mpC { m with v := o.v, f := o.f, la := o.la, lt := o.lt, cn := o.cn, rl := o.rl, en := o.en }) (mpC { m with v := o.v, f := o.f, la := o.la, lt := o.lt, cn := o.cn, rl := o.rl, en := o.en, iq := o.iq }) rfl _ e15 (by kernel_rfl) (of_decide_eq_true (by kernel_rfl)) (by kernel_rfl) rfl fun w1 hM => ⟨q, fun _ => rfl, ⟨undef, rfl, rfl⟩, hW.put 7 33 rfl hk hp (by decide) hM⟩
  case p34 =>
    intro D q a' w' hk he hl hW
    have f5 : a'.tmps.getD 5 undef = .pointer (some ⟨R3, 0, none⟩) := (hl 5).trans ((lookS_absent _ 0 (by simp)).trans rfl)
    exact wp_val (.pointer (some ⟨R3, 12, none⟩)) (by simp only [execOp, Act.eval]; rw [f5]; kernel_rfl) ⟨q, fun _ => rfl, ⟨_, rfl, rfl⟩, hW.keep (by decide)⟩
  case p35 =>
    intro D q a' w' hk he hl hW
    have e34 := (hl 42).trans (lookS_at rfl (he ⟨34, .data⟩ (by simp) rfl) rfl)
    have e17 := (hl 33).trans (lookS_at rfl (he ⟨17, .data⟩ (by simp) rfl) rfl)
    have hp : ∀ t, [19, 21, 23, 25, 27, 29, 31, 33, 35][8 - 1]? = some t → 0 < 8 → D t = true := fun t ht _ => by obtain rfl := Option.some.inj ht; exact he ⟨33, .chain⟩ (by simp) rfl
    exact wp_sstore1 _ _ _ rfl rfl _ _ e34 0 (hW.at 8 35 rfl hk hp) (mpC { m with v := o.v, f := o.f, la := o.la, lt := o.lt, cn := o.cn, rl := o.rl, en := o.en, iq := o.iq }) (mpC { m with v := o.v, f := o.f, la := o.la, lt := o.lt, cn := o.cn, rl := o.rl, en := o.en, iq := o.iq, mi := o.mi }) rfl _ e17 (by kernel_rfl) (of_decide_eq_true (by kernel_rfl)) (by kernel_rfl) rfl fun w1 hM => ⟨q, fun _ => rfl, ⟨undef, rfl, rfl⟩, hW.put 8 35 rfl hk hp (by decide) hM⟩
  intro D q' w' hD hW
  clear H
  have H := hW.done 8 35 rfl rfl (hD 35 (by decide))
  clear hD hW
  replace H : Mem _ _ _ _ ((R3, mpC { m with v := o.v, f := o.f, la := o.la, lt := o.lt, cn := o.cn, rl := o.rl, en := o.en, iq := o.iq, mi := o.mi }) :: (R2, mpC o) :: [(R1, bskC m s a)]) := H
  simp only [putAll, List.foldl_cons, List.foldl_nil, Act.put, List.setIfInBounds_toArray, List.set_cons_succ, List.set_cons_zero]
  -- END
  replace H : Mem w.heap.size [] w w' ((R3, mpC (regsM m o)) :: (R2, mpC o) :: [(R1, bskC m s a)]) := H
  go_wp2_with (first
    | (go_at_call 9; first
        | (with_reducible refine (Q1.out _).mono ?_; rintro e w2 ⟨rfl, hB⟩; replace H := H.next hB; clear hB)
        | (with_reducible refine (Q2.out _).mono ?_; rintro e w2 ⟨rfl, hB⟩; replace H := H.next hB; clear hB))
    | (go_at_call 11; first
        | (with_reducible refine (Q3.out _).mono ?_; rintro e w2 ⟨rfl, hB⟩; replace H := H.next hB; clear hB)
        | (with_reducible refine (Q4.out _).mono ?_; rintro e w2 ⟨rfl, hB⟩; replace H := H.next hB; clear hB))
    | (go_at_call 13; (with_reducible refine (QA.out _).mono ?_); rintro e w2 ⟨rfl, hB⟩; replace H := H.next hB; clear hB)
    | go_skip | (refine gate_load _ _ rfl ?_; first | (refine wpList_mload rfl _ _ rfl _ _ rfl 0 H _ (mpC m) rfl (by decide +kernel) (by kernel_rfl) (bsk_part m s a) ?_) | (refine wpList_mload rfl _ _ rfl _ _ rfl 1 H _ (mpC m) rfl (by decide +kernel) (by kernel_rfl) (bsk_part m s a) ?_) | (refine wpList_mload rfl _ _ rfl _ _ rfl 2 H _ (mpC m) rfl (by decide +kernel) (by kernel_rfl) (bsk_part m s a) ?_))
    | go_skip | (refine wpList_mboxA rfl _ _ rfl H _ rfl ?_; clear H; intro _ w1 _ H) | (refine gate_load _ _ rfl ?_; first | (refine wpList_mloadA rfl _ _ rfl _ rfl 0 H _ rfl (by decide +kernel) (by kernel_rfl) ?_) | (refine wpList_mloadA rfl _ _ rfl _ rfl 1 H _ rfl (by decide +kernel) (by kernel_rfl) ?_) | (refine wpList_mloadA rfl _ _ rfl _ rfl 2 H _ rfl (by decide +kernel) (by kernel_rfl) ?_) | (refine wpList_mload1 rfl _ _ rfl _ _ rfl 0 H _ (.int _ _) rfl rfl (by decide +kernel) ?_) | (refine wpList_mload1 rfl _ _ rfl _ _ rfl 1 H _ (.int _ _) rfl rfl (by decide +kernel) ?_) | (refine wpList_mload1 rfl _ _ rfl _ _ rfl 2 H _ (.int _ _) rfl rfl (by decide +kernel) ?_) | (refine wpList_mload1 rfl _ _ rfl _ _ rfl 0 H _ (.bool _) rfl rfl (by decide +kernel) ?_) | (refine wpList_mload1 rfl _ _ rfl _ _ rfl 1 H _ (.bool _) rfl rfl (by decide +kernel) ?_) | (refine wpList_mload1 rfl _ _ rfl _ _ rfl 2 H _ (.bool _) rfl rfl (by decide +kernel) ?_) | (refine wpList_mload1 rfl _ _ rfl _ _ rfl 0 H _ (.pointer _) rfl rfl (by decide +kernel) ?_) | (refine wpList_mload1 rfl _ _ rfl _ _ rfl 1 H _ (.pointer _) rfl rfl (by decide +kernel) ?_) | (refine wpList_mload1 rfl _ _ rfl _ _ rfl 2 H _ (.pointer _) rfl rfl (by decide +kernel) ?_) | (refine wpList_mload1 rfl _ _ rfl _ _ rfl 0 H _ (.string _) rfl rfl (by decide +kernel) ?_) | (refine wpList_mload1 rfl _ _ rfl _ _ rfl 1 H _ (.string _) rfl rfl (by decide +kernel) ?_) | (refine wpList_mload1 rfl _ _ rfl _ _ rfl 2 H _ (.string _) rfl rfl (by decide +kernel) ?_) | (refine wpList_mload1 rfl _ _ rfl _ _ rfl 0 H _ (.slice _ _ _) rfl rfl (by decide +kernel) ?_) | (refine wpList_mload1 rfl _ _ rfl _ _ rfl 1 H _ (.slice _ _ _) rfl rfl (by decide +kernel) ?_) | (refine wpList_mload1 rfl _ _ rfl _ _ rfl 2 H _ (.slice _ _ _) rfl rfl (by decide +kernel) ?_)) | (refine gate_store _ _ _ rfl ?_; (first | (refine wpList_mstoreA rfl _ _ _ rfl rfl _ rfl 0 H _ _ rfl rfl (by kernel_rfl) (by kernel_rfl) (by kernel_rfl) ?_) | (refine wpList_mstoreA rfl _ _ _ rfl rfl _ rfl 1 H _ _ rfl rfl (by kernel_rfl) (by kernel_rfl) (by kernel_rfl) ?_) | (refine wpList_mstoreA rfl _ _ _ rfl rfl _ rfl 2 H _ _ rfl rfl (by kernel_rfl) (by kernel_rfl) (by kernel_rfl) ?_) | (refine wpList_mstore rfl _ _ _ rfl rfl _ _ rfl 0 H _ _ rfl (.int _ _) rfl (by kernel_rfl) (of_decide_eq_true (by kernel_rfl)) (by kernel_rfl) rfl ?_) | (refine wpList_mstore rfl _ _ _ rfl rfl _ _ rfl 1 H _ _ rfl (.int _ _) rfl (by kernel_rfl) (of_decide_eq_true (by kernel_rfl)) (by kernel_rfl) rfl ?_) | (refine wpList_mstore rfl _ _ _ rfl rfl _ _ rfl 2 H _ _ rfl (.int _ _) rfl (by kernel_rfl) (of_decide_eq_true (by kernel_rfl)) (by kernel_rfl) rfl ?_) | (refine wpList_mstore rfl _ _ _ rfl rfl _ _ rfl 0 H _ _ rfl (.bool _) rfl (by kernel_rfl) (of_decide_eq_true (by kernel_rfl)) (by kernel_rfl) rfl ?_) | (refine wpList_mstore rfl _ _ _ rfl rfl _ _ rfl 1 H _ _ rfl (.bool _) rfl (by kernel_rfl) (of_decide_eq_true (by kernel_rfl)) (by kernel_rfl) rfl ?_) | (refine wpList_mstore rfl _ _ _ rfl rfl _ _ rfl 2 H _ _ rfl (.bool _) rfl (by kernel_rfl) (of_decide_eq_true (by kernel_rfl)) (by kernel_rfl) rfl ?_) | (refine wpList_mstore rfl _ _ _ rfl rfl _ _ rfl 0 H _ _ rfl (.pointer _) rfl (by kernel_rfl) (of_decide_eq_true (by kernel_rfl)) (by kernel_rfl) rfl ?_) | (refine wpList_mstore rfl _ _ _ rfl rfl _ _ rfl 1 H _ _ rfl (.pointer _) rfl (by kernel_rfl) (of_decide_eq_true (by kernel_rfl)) (by kernel_rfl) rfl ?_) | (refine wpList_mstore rfl _ _ _ rfl rfl _ _ rfl 2 H _ _ rfl (.pointer _) rfl (by kernel_rfl) (of_decide_eq_true (by kernel_rfl)) (by kernel_rfl) rfl ?_) | (refine wpList_mstore rfl _ _ _ rfl rfl _ _ rfl 0 H _ _ rfl (.string _) rfl (by kernel_rfl) (of_decide_eq_true (by kernel_rfl)) (by kernel_rfl) rfl ?_) | (refine wpList_mstore rfl _ _ _ rfl rfl _ _ rfl 1 H _ _ rfl (.string _) rfl (by kernel_rfl) (of_decide_eq_true (by kernel_rfl)) (by kernel_rfl) rfl ?_) | (refine wpList_mstore rfl _ _ _ rfl rfl _ _ rfl 2 H _ _ rfl (.string _) rfl (by kernel_rfl) (of_decide_eq_true (by kernel_rfl)) (by kernel_rfl) rfl ?_) | (refine wpList_mstore rfl _ _ _ rfl rfl _ _ rfl 0 H _ _ rfl (.slice _ _ _) rfl (by kernel_rfl) (of_decide_eq_true (by kernel_rfl)) (by kernel_rfl) rfl ?_) | (refine wpList_mstore rfl _ _ _ rfl rfl _ _ rfl 1 H _ _ rfl (.slice _ _ _) rfl (by kernel_rfl) (of_decide_eq_true (by kernel_rfl)) (by kernel_rfl) rfl ?_) | (refine wpList_mstore rfl _ _ _ rfl rfl _ _ rfl 2 H _ _ rfl (.slice _ _ _) rfl (by kernel_rfl) (of_decide_eq_true (by kernel_rfl)) (by kernel_rfl) rfl ?_)); clear H; intro w1 H; simp only [List.set_cons_zero, List.set_cons_succ] at H)
    | fail)
  go_ret
  exact ⟨rfl, H.toBelow⟩
end Go.Proofs.Ytodmhmkbiafahaa
