/-
  Package header's headOf, where there are sixteen octets: over this seat's translation; no condition.
-/
import Derived.Test.YtaljenjnedijgaaHch
namespace Go.Proofs.Ytaljenjnedijgaa
open Go.RowKit

theorem conv4 (w1 : World) (g : Nat) (x : Nat → Int) (X : HD w1 g x) : (convert 30 9 (.slice (some ⟨g, 0, none⟩) 4 16)).run Try.prog w1 = .ok (.string (strOfNums [x 0, x 1, x 2, x 3])) w1 :=
  run_convert_bytes_arg (P := Try.prog) w1 30 5 Try.underlying30 Try.underlying5 g 0 4 16 [x 0, x 1, x 2, x 3] rfl (fun i hi => by
    rw [Nat.zero_add, X.at i (by omega)]
    match i, hi with
    | 0, _ | 1, _ | 2, _ | 3, _ => rfl
    | n + 4, h => exact absurd h (by omega)) _ Try.underlying9
theorem toList_no {s t : ByteArray} {l : List UInt8} (h : s ≠ t) (e : t.data.toList = l := by rfl) : (s.toList == l) = false := by
  rw [beq_eq_false_iff_ne]
  intro h'
  exact h (Go.WideShapes.bytes_inj (by rw [← ByteArray.toList_eq, h', e]))
theorem strOf4_no {a b c d : Int} (h : ¬ (a = 78 ∧ b = 69 ∧ c = 83 ∧ d = 26)) (a0 : 0 ≤ a) (a1 : a < 256) (b0 : 0 ≤ b) (b1 : b < 256) (c0 : 0 ≤ c) (c1 : c < 256) (d0 : 0 ≤ d) (d1 : d < 256) : strOfNums [a, b, c, d] ≠ ⟨#[78, 69, 83, 26]⟩ := by
  intro e
  have e1 := congrArg (fun s : ByteArray => s.data.toList.map fun x => (x.toNat : Int)) e
  simp [strOfNums] at e1
  refine h ⟨?_, ?_, ?_, ?_⟩ <;> omega
end Go.Proofs.Ytaljenjnedijgaa
