/-
  The walk of SpriteFinds. Over this seat's translation; no condition. (Written by gen_sp.py.)
-/
import Derived.Test.YtphnpahjofacfabSpy
import Derived.Test.YtphnpahjofacfabSps
namespace Go.Proofs.Ytphnpahjofacfab
open Go.RowKit Go.Sort
set_option linter.unusedSimpArgs false
set_option linter.unusedVariables false
set_option maxRecDepth 20000

/-- What Few hands on. -/
def cutV (v : Value) : Value := match v with
  | .slice a n c => if 257 < n then .slice a 257 c else .slice a n c
  | v => v
theorem Rd.cut15 {w : World} {v : Value} {l : List (Int × Bool)} (h : Rd w v l) : Rd w (cutV v) (l.take 257) := by
  have h0 := h
  obtain ⟨a, cap, rfl, hc, hm, hr⟩ := h
  rw [show cutV (.slice a l.length cap) = if 257 < l.length then .slice a 257 cap else .slice a l.length cap from rfl]
  by_cases hn : 257 < l.length
  · rw [if_pos hn]
    rcases hr with rfl | ⟨b, off, rfl, hb, hq⟩
    · simp at hn
    · exact Rd.takeS 257 (by omega) hc hm hb hq
  · rw [if_neg hn, List.take_of_length_le (by omega)]
    exact h0
theorem find_len {A P : List Nat} {l : List (Int × Bool)} {line : Int} {t : Bool} {i : Nat} (h : A = (P ++ [i]) ++ fromS l line t (64 - (i + 1)) (i + 1)) : P.length < A.length ∧ A[P.length]? = some i := by
  rw [h]
  constructor
  · simp
  · simp
/-- What Find answers, where there are more, and where there are not. -/
theorem find_more {l : List (Int × Bool)} {line : Int} {t : Bool} {w w' : World} {e : Ending} {A : List Nat} (h : FindP l line t w e w') (hA : onL l line t = A) (h8 : 8 < A.length) : ∃ ba bc blk, e = .returned (.tuple #[.slice ba 8 bc, .bool true, .bool (secY l), .int .i64 0]) ∧ RowAt icl 1 (.slice ba 8 bc) (A.take 8) blk ∧ Mem w.heap.size [] w w' blk := by
  obtain ⟨v, blk, rfl, hR, hM⟩ := h
  rw [hA] at hR ⊢
  obtain ⟨ba, bc, rfl, _⟩ := hR.shape
  have e8 : (A.take 8).length = 8 := by rw [List.length_take]; omega
  rw [e8] at hR ⊢
  exact ⟨ba, bc, blk, by rw [decide_eq_true h8], hR, hM⟩
theorem find_all {l : List (Int × Bool)} {line : Int} {t : Bool} {w w' : World} {e : Ending} {A : List Nat} (h : FindP l line t w e w') (hA : onL l line t = A) (h8 : A.length ≤ 8) : ∃ ba bc blk, e = .returned (.tuple #[.slice ba A.length bc, .bool false, .bool (secY l), .int .i64 0]) ∧ RowAt icl 1 (.slice ba A.length bc) A blk ∧ Mem w.heap.size [] w w' blk := by
  obtain ⟨v, blk, rfl, hR, hM⟩ := h
  rw [hA] at hR ⊢
  rw [List.take_of_length_le h8] at hR
  obtain ⟨ba, bc, rfl, _⟩ := hR.shape
  exact ⟨ba, bc, blk, by rw [decide_eq_false (by omega)], hR, hM⟩
attribute [local irreducible] wpList
end Go.Proofs.Ytphnpahjofacfab
