/-
  The document's Check. Contract over this seat's translation; no condition.
-/
import Derived.Test.YtaljenjnedijgaaHra
namespace Go.Proofs.Ytaljenjnedijgaa
open Go.RowKit

theorem prg_step {x : Int} (h : prgOk x = true) (h2 : x < 524288) : prgOk (2 * x) = true := by rw [prgOk_iff] at h ⊢; omega
theorem chr_step {x : Int} (h : chrOk x = true) (h2 : x < 262144) : chrOk (2 * x) = true := by rw [chrOk_iff] at h ⊢; omega
theorem prg_end {x p : Int} (h : prgOk x = true) (h1 : x = 16384 ∨ x / 2 < p) (h2 : ¬ x < p ∨ ¬ x < 524288) : decide (x = p) = prgOk p := by
  rw [Bool.eq_iff_iff, decide_eq_true_eq, prgOk_iff]
  rw [prgOk_iff] at h
  omega
theorem chr_end {x p : Int} (h : chrOk x = true) (h1 : x = 8192 ∨ x / 2 < p) (h2 : ¬ x < p ∨ ¬ x < 262144) : decide (x = p) = chrOk p := by
  rw [Bool.eq_iff_iff, decide_eq_true_eq, chrOk_iff]
  rw [chrOk_iff] at h
  omega
theorem siz_end {n p q k : Int} {o : Bool} (h1 : decide (n = p) = prgOk p) (h2 : decide (q = k) = chrOk k) : sizOk p k o = (decide (n = p) && decide (q = k) && (!o || decide (k = 8192))) := by
  unfold sizOk
  rw [h1, h2]
end Go.Proofs.Ytaljenjnedijgaa
