/-
  The document's bit, amount and Check. Contracts over this seat's translation; octets are from 0 to 255.
-/
import Derived.Test.YtaljenjnedijgaaHcx
namespace Go.Proofs.Ytaljenjnedijgaa
open Go.RowKit

theorem dbl_bound (i : Nat) : ∀ n : Int, 0 ≤ n → n ≤ 1000000 → 0 ≤ dbl i n ∧ dbl i n ≤ 1000000 := by
  induction i with
  | zero => intro n h0 h1; exact ⟨h0, h1⟩
  | succ i ih => intro n h0 h1; exact ih _ (by omega) (by omega)
theorem dbl_snoc (i : Nat) : ∀ n : Int, dbl (i + 1) n = min (2 * dbl i n) 1000000 := by
  induction i with
  | zero => intro n; rfl
  | succ i ih => intro n; exact ih (min (2 * n) 1000000)
end Go.Proofs.Ytaljenjnedijgaa
