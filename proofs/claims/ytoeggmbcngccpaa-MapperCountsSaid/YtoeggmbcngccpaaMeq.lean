/-
  A mapper equals itself. Over this seat's translation; no condition.
-/
import Derived.Test.YtoeggmbcngccpaaMwx
import Derived.ChangeKeysEq
namespace Go.Proofs.Ytoeggmbcngccpaa
open Go.RowKit
set_option linter.unusedSimpArgs false
set_option linter.unusedVariables false

theorem r_eql (a b c d e f g h : Int) (n : Nat) (w : World) : (Op.equalIn (n + 2) 24 (.agg #[.int .u8 a, .int .u8 b, .int .u8 c, .int .u8 d, .int .u8 e, .int .u8 f, .int .u8 g, .int .u8 h]) (.agg #[.int .u8 a, .int .u8 b, .int .u8 c, .int .u8 d, .int .u8 e, .int .u8 f, .int .u8 g, .int .u8 h])).run Try.prog w = .ok true w := by
  have u3 := Try.underlying5
  have a3 := Try.isAgg5
  have z3 := Try.sizeOf5
  have hs : (Try.prog.info? 5).isSome = true := by kernel_rfl
  obtain ⟨i, hi⟩ := Option.isSome_iff_exists.1 hs
  have hc : Try.prog.cellsOf 5 = 1 := by kernel_rfl
  rw [show n + 2 = (n + 1) + 1 from rfl, run_equalIn_array w (n + 1) _ _ Try.underlying24 hi, hc, show List.range 8 = [0, 1, 2, 3, 4, 5, 6, 7] from rfl]
  simp only [Op.eqItems]
  go_simp
set_option maxRecDepth 100000 in
set_option maxHeartbeats 2000000 in
theorem mp_eqi (m : Mp) (w : World) : (Op.equalIn 10000 26 (.agg (mpC m)) (.agg (mpC m))).run Try.prog w = .ok true w := by
  have hr := r_eql m.r0 m.r1 m.r2 m.r3 m.r4 m.r5 m.r6 m.r7
  have u3 := Try.underlying5
  have a3 := Try.isAgg5
  have z3 := Try.sizeOf5
  rw [show (10000 : Nat) = 9999 + 1 from rfl, run_equalIn_struct w 9999 26 _ _ (by kernel_rfl) (by kernel_rfl)]
  simp only [Program.fieldsOf, Try.underlying26]
  unfold mpC
  have u1 := Try.underlying3
  have u2 := Try.underlying2
  have u4 := Try.underlying4
  have u5 := Try.underlying24
  have a5 := Try.isAgg24
  have z5 := Try.sizeOf24
  have hr' := hr 9997
  clear hr
  simp only [Nat.reduceAdd] at hr'
  simp only [Op.eqFields]
  go_simp
theorem mp_eql (m : Mp) (w : World) : (binOp .eql 26 (.agg (mpC m)) (.agg (mpC m))).run Try.prog w = .ok (.bool true) w := by
  rw [run_eql_struct, mp_eqi]; rfl
theorem mp_neq (m : Mp) (w : World) : (binOp .neq 26 (.agg (mpC m)) (.agg (mpC m))).run Try.prog w = .ok (.bool false) w := by
  rw [run_neq_struct, mp_eqi]; rfl
end Go.Proofs.Ytoeggmbcngccpaa
