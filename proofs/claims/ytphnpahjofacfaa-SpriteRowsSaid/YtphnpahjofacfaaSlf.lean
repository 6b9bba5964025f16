/-
  The walk of SpriteRows. Over this seat's translation; no condition. (Written by gen_sp.py.)
-/
import Derived.Test.YtphnpahjofacfaaSlfa
namespace Go.Proofs.Ytphnpahjofacfaa
open Go.RowKit Go.Sort
set_option linter.unusedSimpArgs false
set_option linter.unusedVariables false
set_option maxRecDepth 20000

theorem spriteRows_walk (sv : Value) (l : List (Int × Bool)) (q : Sa) (w : World) (hr : Rd w sv l) (hb : bytS l) : Calls Try.prog 6 #[sv, .agg (saC q)] w fun e w' => e = .returned (.bool true) ∧ Below w.heap.size w w' := by
  obtain ⟨qi, ql, qt, qb, lo, ls, hi, hs, qx⟩ := q
  cases hm : mayS (l.take 257).length qi ql
  · exact rows_no sv l qi ql qt qb lo ls hi hs qx w hr hb hm
  · rw [mayS_iff] at hm
    obtain ⟨hn, ⟨i0, i1⟩, l0, l1⟩ := hm
    obtain ⟨i, rfl⟩ := Int.eq_ofNat_of_zero_le i0
    cases qt
    · exact rows_short sv l i ql qb lo ls hi hs qx w hr hb (by omega) l0 l1 hn
    · exact rows_tall sv l i ql qb lo ls hi hs qx w hr hb (by omega) l0 l1 hn
end Go.Proofs.Ytphnpahjofacfaa
