/-
  Package policy's Join: refused where one may not be, else what is secret in one of two. Over this seat's translation; no condition.
-/
import Derived.Test.YtjiilcnbajcdhaaDoorPar
import Derived.Test.YtjiilcnbajcdhaaDoorCon
namespace Go.Proofs.YtjiilcnbajcdhaaDoor
open Go.RowKit Go.Shelf

theorem rise_len : ∀ (l : List (Int × Int)) {m : Int}, Rise m l → ∀ r ∈ l.getLast?, m + 2 * (l.length : Int) ≤ r.2 + 2
  | [], _, _ => fun r h => by simp at h
  | [a], m, h => fun r hr => by
    simp at hr; subst hr
    obtain ⟨h1, h2, _⟩ := h
    simp; omega
  | a :: b :: l, m, h => fun r hr => by
    obtain ⟨h1, h2, h3⟩ := h
    have := rise_len (b :: l) h3 r (by simpa using hr)
    simp only [List.length_cons] at this ⊢
    omega
theorem may_len (l : List (Int × Int)) (h : mayB 0 l = true) : l.length ≤ 40000 := by
  obtain ⟨h1, h2⟩ := (mayB_iff l 0).1 h
  cases hl : l.getLast? with
  | none => rw [List.getLast?_eq_none_iff.1 hl]; simp
  | some r =>
    have h3 := rise_len l h1 r (by rw [hl]; rfl)
    have h4 := h2 r (List.mem_of_getLast? hl)
    omega
theorem areaMay_may {n : Int} {l : List (Int × Int)} (h : areaMay n l = true) : mayB 0 l = true := by
  unfold areaMay at h; simp only [Bool.and_eq_true] at h; exact h.1
theorem polMay_l {a b : List (Int × Int)} (h : polMay a b = true) : areaMay 2048 a = true := by unfold polMay at h; simp only [Bool.and_eq_true] at h; exact h.1
theorem polMay_r {a b : List (Int × Int)} (h : polMay a b = true) : areaMay 8192 b = true := by unfold polMay at h; simp only [Bool.and_eq_true] at h; exact h.2
theorem both_whole {a b : List (Int × Int)} (h1 : mayB 0 a = true) (h2 : mayB 0 b = true) : (a ++ b).all wholeB = true := by
  rw [List.all_append, mayB_wholes a 0 h1, mayB_wholes b 0 h2]; rfl
def JoinYes (P Q : Bool) (ra rb sa sb : List (Int × Int)) (w : World) (e : Ending) (w' : World) : Prop :=
  ∃ sv tv T U, e = .returned (.tuple #[polV P Q sv tv, .int .i64 0]) ∧ Rg w' sv T ∧ Rg w' tv U ∧ Tidied (ra ++ rb) T ∧ Tidied (sa ++ sb) U ∧ Below w.heap.size w w'
def JR (W : World) (m : Nat) (P Q : Bool) (i : Value) (wr : World) : Prop :=
  (i = .int .i64 0 ∧ wr.heap[m]? = some (.cells #[.bool false, .bool false, .slice none 0 0, .slice none 0 0] 29 (0, 0)) ∧ Below m W wr) ∨
  (i = .int .i64 1 ∧ wr.heap[m]? = some (.cells #[.bool P, .bool false, .slice none 0 0, .slice none 0 0] 29 (0, 0)) ∧ Below m W wr) ∨
  (i = .int .i64 2 ∧ wr.heap[m]? = some (.cells #[.bool P, .bool Q, .slice none 0 0, .slice none 0 0] 29 (0, 0)) ∧ Below m W wr)
end Go.Proofs.YtjiilcnbajcdhaaDoor
