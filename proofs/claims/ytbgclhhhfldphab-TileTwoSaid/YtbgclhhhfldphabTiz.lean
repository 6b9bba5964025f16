/-
  Two tiles compared; package tile's Alike. Over this seat's translation; no condition. (Written by gen_ti.py.)
-/
import Derived.Test.YtbgclhhhfldphabTic
import Derived.ChangeKeysEq
namespace Go.Proofs.Ytbgclhhhfldphab
open Go.RowKit Go.Sort
set_option linter.unusedSimpArgs false
set_option linter.unusedVariables false
set_option maxRecDepth 20000

set_option maxHeartbeats 2000000 in
theorem ti_eqn (a0 a1 a2 a3' a4 b0 b1 b2 b3 b4 : Int) (n : Nat) (w : World) : (Op.equalIn (n + 2) 24 (.agg #[.int .u16 a0, .int .u16 a1, .int .u16 a2, .int .u16 a3', .int .u16 a4]) (.agg #[.int .u16 b0, .int .u16 b1, .int .u16 b2, .int .u16 b3, .int .u16 b4])).run Try.prog w = .ok (decide (a0 = b0) && decide (a1 = b1) && decide (a2 = b2) && decide (a3' = b3) && decide (a4 = b4)) w := by
  have u3 := Try.underlying22
  have a3 := Try.isAgg22
  have z3 := Try.sizeOf22
  rw [run_equalIn_struct w (n + 1) 24 _ _ (by kernel_rfl) (by kernel_rfl)]
  simp only [Program.fieldsOf, Try.underlying24, Op.eqFields]
  by_cases h0 : a0 = b0
  · subst h0
    by_cases h1 : a1 = b1
    · subst h1
      by_cases h2 : a2 = b2
      · subst h2
        by_cases h3 : a3' = b3
        · subst h3
          by_cases h4 : a4 = b4
          · subst h4
            go_simp
          · have e4 : (a4 == b4) = false := by simpa using h4
            go_simp
        · have e3 : (a3' == b3) = false := by simpa using h3
          go_simp
      · have e2 : (a2 == b2) = false := by simpa using h2
        go_simp
    · have e1 : (a1 == b1) = false := by simpa using h1
      go_simp
  · have e0 : (a0 == b0) = false := by simpa using h0
    go_simp
theorem ti_deq (a b : Ti) : (decide (w16 a.lo = w16 b.lo) && decide (w16 a.hi = w16 b.hi) && decide (w16 a.one = w16 b.one) && decide (w16 a.two = w16 b.two) && decide (w16 a.s = w16 b.s)) = decide (a = b) := by
  rw [Bool.eq_iff_iff]
  simp only [Bool.and_eq_true, decide_eq_true_eq]
  constructor
  · rintro ⟨⟨⟨⟨h0, h1⟩, h2⟩, h3⟩, h4⟩
    cases a
    cases b
    simp only [Ti.mk.injEq]
    exact ⟨w16_inj h0, w16_inj h1, w16_inj h2, w16_inj h3, w16_inj h4⟩
  · intro h
    subst h
    exact ⟨⟨⟨⟨rfl, rfl⟩, rfl⟩, rfl⟩, rfl⟩
theorem ti_eqdG (a b : Ti) (x y : Operand) (w : World) : (do eqGuard .eql 24 x y (.agg (tiC a)) (.agg (tiC b)); binOp .eql 24 (.agg (tiC a)) (.agg (tiC b)) : Sem Value).run Try.prog w = .ok (.bool (decide (a = b))) w := by
  have e := run_eqGuard_agg (P := Try.prog) (w := w) .eql 24 x y (tiC a) (tiC b) (by kernel_rfl)
  have e2 : (binOp .eql 24 (.agg (tiC a)) (.agg (tiC b))).run Try.prog w = .ok (.bool (decide (a = b))) w := by
    have h := ti_eqn (w16 a.lo) (w16 a.hi) (w16 a.one) (w16 a.two) (w16 a.s) (w16 b.lo) (w16 b.hi) (w16 b.one) (w16 b.two) (w16 b.s) 9998 w
    rw [ti_deq] at h
    rw [run_eql_struct]
    unfold tiC
    rw [h]
    rfl
  simp only [Sem.run_bind, e, Result.andThen_ok, e2]
attribute [local irreducible] wpList
end Go.Proofs.Ytbgclhhhfldphab
