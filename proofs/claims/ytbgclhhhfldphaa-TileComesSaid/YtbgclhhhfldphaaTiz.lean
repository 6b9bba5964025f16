/-
  Two tiles compared; package tile's Alike. Over this seat's translation; no condition. (Written by gen_ti.py.)
-/
import Derived.Test.YtbgclhhhfldphaaTic
import Derived.ChangeKeysEq
namespace Go.Proofs.Ytbgclhhhfldphaa
open Go.RowKit Go.Sort
set_option linter.unusedSimpArgs false
set_option linter.unusedVariables false
set_option maxRecDepth 20000

set_option maxHeartbeats 2000000 in
theorem ti_eqn (a0 a1 a2 a3' a4 b0 b1 b2 b3 b4 : Int) (n : Nat) (w : World) : (Op.equalIn (n + 2) 24 (.agg #[.int .u16 a0, .int .u16 a1, .int .u16 a2, .int .u16 a3', .int .u16 a4]) (.agg #[.int .u16 b0, .int .u16 b1, .int .u16 b2, .int .u16 b3, .int .u16 b4])).run Try.prog w = .ok (decide (a0 = b0) && decide (a1 = b1) && decide (a2 = b2) && decide (a3' = b3) && decide (a4 = b4)) w := by
  have u3 := Try.underlying22
  have a3 := Try.isAgg22
  have z3 := Try.sizeOf22
  rw [run_equalIn_struct w (n + 1) 24 _ _ (by kernel_rfl) (by kernel_rfl)]
  simp only [Program.fieldsOf, Try.underlying24, Op.eqFields]
  by_cases h0 : a0 = b0
  · subst h0
    by_cases h1 : a1 = b1
    · subst h1
      by_cases h2 : a2 = b2
      · subst h2
        by_cases h3 : a3' = b3
        · subst h3
          by_cases h4 : a4 = b4
          · subst h4
            go_simp
          · have e4 : (a4 == b4) = false := by simpa using h4
            go_simp
        · have e3 : (a3' == b3) = false := by simpa using h3
          go_simp
      · have e2 : (a2 == b2) = false := by simpa using h2
        go_simp
    · have e1 : (a1 == b1) = false := by simpa using h1
      go_simp
  · have e0 : (a0 == b0) = false := by simpa using h0
    go_simp
theorem ti_deq (a b : Ti) : (decide (w16 a.lo = w16 b.lo) && decide (w16 a.hi = w16 b.hi) && decide (w16 a.one = w16 b.one) && decide (w16 a.two = w16 b.two) && decide (w16 a.s = w16 b.s)) = decide (a = b) := by
  rw [Bool.eq_iff_iff]
  simp only [Bool.and_eq_true, decide_eq_true_eq]
  constructor
  · rintro ⟨⟨⟨⟨h0, h1⟩, h2⟩, h3⟩, h4⟩
    cases a
    cases b
    simp only [Ti.mk.injEq]
    exact ⟨w16_inj h0, w16_inj h1, w16_inj h2, w16_inj h3, w16_inj h4⟩
  · intro h
    subst h
    exact ⟨⟨⟨⟨rfl, rfl⟩, rfl⟩, rfl⟩, rfl⟩
theorem ti_eqdG (a b : Ti) (x y : Operand) (w : World) : (do eqGuard .eql 24 x y (.agg (tiC a)) (.agg (tiC b)); binOp .eql 24 (.agg (tiC a)) (.agg (tiC b)) : Sem Value).run Try.prog w = .ok (.bool (decide (a = b))) w := by
  have e := run_eqGuard_agg (P := Try.prog) (w := w) .eql 24 x y (tiC a) (tiC b) (by kernel_rfl)
  have e2 : (binOp .eql 24 (.agg (tiC a)) (.agg (tiC b))).run Try.prog w = .ok (.bool (decide (a = b))) w := by
    have h := ti_eqn (w16 a.lo) (w16 a.hi) (w16 a.one) (w16 a.two) (w16 a.s) (w16 b.lo) (w16 b.hi) (w16 b.one) (w16 b.two) (w16 b.s) 9998 w
    rw [ti_deq] at h
    rw [run_eql_struct]
    unfold tiC
    rw [h]
    rfl
  simp only [Sem.run_bind, e, Result.andThen_ok, e2]
attribute [local irreducible] wpList
set_option maxHeartbeats 2000000 in
theorem talike_ct (a b : Ti) (w : World) : Calls Try.prog 15 #[.agg (tiC a), .agg (tiC b)] w fun e w' => e = .returned (.bool (alikeT a b)) ∧ Below w.heap.size w w' := by
  by_cases hs : a.s = b.s
  · have h0 : alikeT a b = decide (lowT a = lowT b) := by simp [alikeT, hs]
    have h1 : decide (w16 a.s = w16 b.s) = true := by simp [hs]
    have h2 : (w16 a.s == w16 b.s) = true := by simp [hs]
    rw [h0]
    clear hs h0
    have QL := Lib.hid (fun t wr => tlow_ct t wr)
    have H := Mem.start w
    have M1 : True := trivial
    have M2 : True := trivial
    go_enter Try.func15, Try.ntmps15
    go_wp2_with (first | (clear M1; refine wpList_mboxA rfl _ _ rfl H _ rfl ?_; clear H; intro Ra w1 _ H) | (clear M2; refine wpList_mboxA rfl _ _ rfl H _ rfl ?_; clear H; intro Rb w1 _ H) | fail)
    (try simp only [Act.put, List.setIfInBounds_toArray, List.set_cons_succ, List.set_cons_zero])
    (refine wp_region_quiet_below (by kernel_rfl) (by kernel_rfl) ?_); (repeat (first | (go_big_quiet_want; refine gate_qload _ _ rfl ?_; refine quiet_mload1 22 _ rfl _ _ rfl 1 H _ (.int .u16 _) rfl rfl (by decide +kernel) ?_; simp only [Act.put, List.setIfInBounds_toArray, List.set_cons_succ, List.set_cons_zero]; go_big_quiet_on) | (go_big_quiet_want; refine gate_qload _ _ rfl ?_; refine quiet_mload1 22 _ rfl _ _ rfl 0 H _ (.int .u16 _) rfl rfl (by decide +kernel) ?_; simp only [Act.put, List.setIfInBounds_toArray, List.set_cons_succ, List.set_cons_zero]; go_big_quiet_on) | (go_big_quiet_want; refine gate_qload _ _ rfl ?_; refine quiet_mloadA 24 _ rfl _ rfl 1 H (tiC _) rfl (by decide +kernel) (by kernel_rfl) ?_; simp only [Act.put, List.setIfInBounds_toArray, List.set_cons_succ, List.set_cons_zero]; go_big_quiet_on) | (go_big_quiet_want; refine gate_qload _ _ rfl ?_; refine quiet_mloadA 24 _ rfl _ rfl 0 H (tiC _) rfl (by decide +kernel) (by kernel_rfl) ?_; simp only [Act.put, List.setIfInBounds_toArray, List.set_cons_succ, List.set_cons_zero]; go_big_quiet_on) | (go_big_quiet_want; refine gate_qtb .eql 24 _ _ _ rfl ?_; refine quiet_tbin .eql 24 _ _ _ rfl (.agg (tiC _)) (.agg (tiC _)) _ rfl rfl (fun w => ti_eqdG _ _ _ _ w) ?_; simp only [Act.put, List.setIfInBounds_toArray, List.set_cons_succ, List.set_cons_zero]; go_big_quiet_on) | go_big_quiet_step ((first | (go_at_call 24; (with_reducible exact Calls.regrown_of (QL.out _ _))) | fail)))); (refine wpQuiet_nil ?_); intro _ hw'; obtain ⟨⟨dq, osq⟩, hw''⟩ := hw'; (subst hw''); replace H := H.next (below_regrown _ dq osq); generalize Go.Sort.grow (redrawn _ dq) osq = wq at *
    go_wp2
    go_ret
    exact ⟨rfl, H.toBelow⟩
  · have h0 : alikeT a b = false := by simp [alikeT, hs]
    have hn : ¬ w16 a.s = w16 b.s := fun h => hs (w16_inj h)
    have h1 : decide (w16 a.s = w16 b.s) = false := by simpa using hn
    have h2 : (w16 a.s == w16 b.s) = false := by simpa using hn
    rw [h0]
    clear hs h0
    have QL := Lib.hid (fun t wr => tlow_ct t wr)
    have H := Mem.start w
    have M1 : True := trivial
    have M2 : True := trivial
    go_enter Try.func15, Try.ntmps15
    go_wp2_with (first | (clear M1; refine wpList_mboxA rfl _ _ rfl H _ rfl ?_; clear H; intro Ra w1 _ H) | (clear M2; refine wpList_mboxA rfl _ _ rfl H _ rfl ?_; clear H; intro Rb w1 _ H) | fail)
    (try simp only [Act.put, List.setIfInBounds_toArray, List.set_cons_succ, List.set_cons_zero])
    (refine wp_region_quiet_below (by kernel_rfl) (by kernel_rfl) ?_); (repeat (first | (go_big_quiet_want; refine gate_qload _ _ rfl ?_; refine quiet_mload1 22 _ rfl _ _ rfl 1 H _ (.int .u16 _) rfl rfl (by decide +kernel) ?_; simp only [Act.put, List.setIfInBounds_toArray, List.set_cons_succ, List.set_cons_zero]; go_big_quiet_on) | (go_big_quiet_want; refine gate_qload _ _ rfl ?_; refine quiet_mload1 22 _ rfl _ _ rfl 0 H _ (.int .u16 _) rfl rfl (by decide +kernel) ?_; simp only [Act.put, List.setIfInBounds_toArray, List.set_cons_succ, List.set_cons_zero]; go_big_quiet_on) | (go_big_quiet_want; refine gate_qload _ _ rfl ?_; refine quiet_mloadA 24 _ rfl _ rfl 1 H (tiC _) rfl (by decide +kernel) (by kernel_rfl) ?_; simp only [Act.put, List.setIfInBounds_toArray, List.set_cons_succ, List.set_cons_zero]; go_big_quiet_on) | (go_big_quiet_want; refine gate_qload _ _ rfl ?_; refine quiet_mloadA 24 _ rfl _ rfl 0 H (tiC _) rfl (by decide +kernel) (by kernel_rfl) ?_; simp only [Act.put, List.setIfInBounds_toArray, List.set_cons_succ, List.set_cons_zero]; go_big_quiet_on) | (go_big_quiet_want; refine gate_qtb .eql 24 _ _ _ rfl ?_; refine quiet_tbin .eql 24 _ _ _ rfl (.agg (tiC _)) (.agg (tiC _)) _ rfl rfl (fun w => ti_eqdG _ _ _ _ w) ?_; simp only [Act.put, List.setIfInBounds_toArray, List.set_cons_succ, List.set_cons_zero]; go_big_quiet_on) | go_big_quiet_step ((first | (go_at_call 24; (with_reducible exact Calls.regrown_of (QL.out _ _))) | fail)))); (refine wpQuiet_nil ?_); intro _ hw'; obtain ⟨⟨dq, osq⟩, hw''⟩ := hw'; (subst hw''); replace H := H.next (below_regrown _ dq osq); generalize Go.Sort.grow (redrawn _ dq) osq = wq at *
    go_wp2
    go_ret
    exact ⟨rfl, H.toBelow⟩
end Go.Proofs.Ytbgclhhhfldphaa
