/-
  Maths of what is told of flags that are alike: bounds of all results; two results that are alike, as the law asks. No condition on the program.
-/
import Derived.Test.YtckfjiacnjjopaaAmx
namespace Go.Proofs.Ytckfjiacnjjopaa

/-- Flags without bits 4 and 5. -/
structure Fl (n : Int) : Prop where
  lo : 0 ≤ n
  hi : n < 256
  cl : clr n = n
theorem fl_put (n b : Int) (z : Bool) : Fl (pbV n b z) := ⟨(pbV_le _ _ _).1, (pbV_le _ _ _).2, clr_put _ _ _⟩
theorem fl_clr (n : Int) (h0 : 0 ≤ n) (h1 : n < 256) : Fl (clr n) := ⟨(clr_le _ h0 h1).1, (clr_le _ h0 h1).2, clr_clr _⟩
theorem fl_pull (x : Bool) : Fl (pullS x) := by cases x <;> exact ⟨by decide, by decide, by decide⟩
theorem told_le {p s a : Int} {x : Bool} {m : Int} {y : Bool} {b : Int} {k : Bool} (a0 : 0 ≤ a) (a1 : a < 256) (i : Nat) (hi : i < 13) : Fl ((toldL p s a x m y b k).getD i dR).2.2.1 ∧ Fl ((toldL p s a x m y b k).getD i dR).2.2.2 := by
  match i, hi with
  | 0, _ | 1, _ | 2, _ | 3, _ | 4, _ | 5, _ | 6, _ | 7, _ | 8, _ | 10, _ | 11, _ | 12, _ => exact ⟨fl_put _ _ _, fl_put _ _ _⟩
  | 9, _ => exact ⟨fl_clr a a0 a1, fl_pull x⟩
/-- What the law asks of two results. -/
theorem ra_ask {v v2 P P2 S S2 : Int} {xl xl2 : Bool} (h : RA (v, xl, P, S) (v2, xl2, P2, S2)) (fP : Fl P) (fS : Fl S) (fP2 : Fl P2) : xl = xl2 ∧ (xl = false → v = v2) ∧ S = S2 ∧ bits .andNot .u8 P S = bits .andNot .u8 P2 S := by
  obtain ⟨h1, h2, h3, h4⟩ := h
  exact ⟨h1, h2, h3, fa_and h4 fP.lo fP.hi fP2.lo fP2.hi fS.lo fS.hi fP.cl fP2.cl⟩
end Go.Proofs.Ytckfjiacnjjopaa
