/-
  Package header's known, sized, Check, given, bit, and the same of the document: contracts over this seat's translation; no condition.
-/
import Derived.Test.YtodmhmkbiafahaaHdr
import Derived.Test.YtodmhmkbiafahaaHbt
import Derived.Test.YtodmhmkbiafahaaAlo
import Derived.Test.YtodmhmkbiafahaaLbl
namespace Go.Proofs.Ytodmhmkbiafahaa
open Go.RowKit

/-- A cartridge's value. -/
def crtV (c : Crt) : Value := .agg #[.int .i64 c.m, .int .i64 c.s, .int .i64 c.p, .int .i64 c.k, .bool c.b, .bool c.f, .bool c.v, .bool c.t, .bool c.o]
theorem ret_b {a b : Bool} (h : a = b) : Ending.returned (.bool a) = .returned (.bool b) := by rw [h]
theorem ret_i {k : IntKind} {a b : Int} (h : a = b) : Ending.returned (.int k a) = .returned (.int k b) := by rw [h]

set_option maxHeartbeats 1000000 in
theorem hknown_ct (m : Int) (w : World) : Calls Try.prog 32 #[.int .i64 m] w fun e w' => e = .returned (.bool (mapOk m)) ∧ Below w.heap.size w w' := by
  go_enter Try.func32, Try.ntmps32
  go_wp2
  all_goals (go_ret; exact ⟨ret_b (by unfold mapOk; simp_all), (by repeat' (first | exact Below.refl _ _ | (refine Below.setCell ?_ (by first | (simp; done) | (simp; omega) | omega) _) | (refine Below.drew ?_) | (refine Below.drewN ?_ _) | (refine Below.alloc ?_ (by first | (simp; done) | (simp; omega) | omega) _)))⟩)
set_option maxHeartbeats 2000000 in
theorem hsized_ct (c : Crt) (w : World) : Calls Try.prog 33 #[crtV c] w fun e w' => e = .returned (.bool (sizOk c.p c.k c.o)) ∧ Below w.heap.size w w' := by
  unfold crtV
  obtain ⟨m, s, p, k, b, f, v, t, o⟩ := c
  simp only []
  cases o
  all_goals
    go_enter Try.func33, Try.ntmps33
    go_wp2
    all_goals (go_ret; exact ⟨ret_b (by unfold sizOk prgOk chrOk; simp_all), (by repeat' (first | exact Below.refl _ _ | (refine Below.setCell ?_ (by first | (simp; done) | (simp; omega) | omega) _) | (refine Below.drew ?_) | (refine Below.drewN ?_ _) | (refine Below.alloc ?_ (by first | (simp; done) | (simp; omega) | omega) _)))⟩)
end Go.Proofs.Ytodmhmkbiafahaa
