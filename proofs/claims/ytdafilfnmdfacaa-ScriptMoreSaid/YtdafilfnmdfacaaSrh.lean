/-
  The document's own answer for whether two scripts are the same. Over this seat's translation; no condition but that numbers read as lists.
-/
import Derived.Test.YtdafilfnmdfacaaSrf
import Derived.ChangeKeysEq
namespace Go.Proofs.Ytdafilfnmdfacaa
open Go.RowKit

/-! ### the same -/
theorem toList_inj' {a b : ByteArray} (h : a.toList = b.toList) : a = b := by
  rw [ByteArray.toList_eq, ByteArray.toList_eq] at h
  exact ByteArray.ext (Array.toList_inj.1 h)
def sameS (a s m : ByteArray) (l : List Int) (b t n : ByteArray) (l2 : List Int) : Bool := decide (a = b) && (eqL l l2 && (decide (s = t) && decide (m = n)))
set_option maxRecDepth 100000 in
set_option maxHeartbeats 2500000 in
theorem rsames_ct (a s m : ByteArray) (rv : Value) (l : List Int) (b t n : ByteArray) (rv2 : Value) (l2 : List Int) (w : World) (h1 : Ri w rv l) (h2 : Ri w rv2 l2) :
    Calls Try.prog 10 #[scrV a rv s m, scrV b rv2 t n] w fun e w' => e = .returned (.bool (sameS a s m l b t n l2)) ∧ Below w.heap.size w w' := by
  have K1 : Hid (∀ wr, Below w.heap.size w wr → Calls Try.prog 24 #[rv, rv2] wr fun e w' => e = .returned (.bool (eqL l l2)) ∧ Below wr.heap.size wr w') := fun wr h => rsamei_ct rv rv2 l l2 wr (h1.below h) (h2.below h)
  obtain ⟨a1, c1, rfl, _⟩ := h1
  obtain ⟨a2, c2, rfl, _⟩ := h2
  unfold sameS
  obtain ⟨x, hx⟩ : ∃ x, eqL l l2 = x := ⟨_, rfl⟩
  rw [hx] at K1 ⊢
  clear hx
  generalize l.length = n1 at *
  generalize l2.length = n2 at *
  unfold scrV
  have eab : decide (a = b) = decide (a.toList = b.toList) := decide_eq_decide.2 ⟨fun h => by rw [h], toList_inj'⟩
  have est : decide (s = t) = decide (s.toList = t.toList) := decide_eq_decide.2 ⟨fun h => by rw [h], toList_inj'⟩
  have emn : decide (m = n) = decide (m.toList = n.toList) := decide_eq_decide.2 ⟨fun h => by rw [h], toList_inj'⟩
  rw [eab, est, emn]
  clear eab est emn
  by_cases hab : a.toList = b.toList
  · go_enter Try.func10, Try.ntmps10
    go_wp2_with fail
    ((with_reducible refine (K1.out _ (by repeat' (first | exact Below.refl _ _ | (refine Below.setCell ?_ (by first | (simp; done) | (simp; omega) | omega) _) | (refine Below.drew ?_) | (refine Below.drewN ?_ _) | (refine Below.alloc ?_ (by first | (simp; done) | (simp; omega) | omega) _)))).mono ?_))
    rintro e w1 ⟨rfl, hB⟩
    have B1 : Below w.heap.size w w1 := (by repeat' (first | exact Below.refl _ _ | (refine Below.setCell ?_ (by first | (simp; done) | (simp; omega) | omega) _) | (refine Below.drew ?_) | (refine Below.drewN ?_ _) | (refine Below.alloc ?_ (by first | (simp; done) | (simp; omega) | omega) _) | (refine Below.trans ?_ (Below.mono hB (by first | (simp; done) | (simp; omega) | omega)))))
    obtain ⟨hc, hf⟩ := bcell hB
    simp at hc hf
    clear hB
    cases x
    · go_wp2
      go_ret
      exact ⟨by simp, B1⟩
    · by_cases hst : s.toList = t.toList
      · go_wp2
        go_ret
        exact ⟨by simp [hab, hst]; exact Bool.eq_iff_iff.2 (by simp), B1⟩
      · go_wp2
        go_ret
        exact ⟨by simp [hab, hst], B1⟩
  · go_enter Try.func10, Try.ntmps10
    go_wp2
    go_ret
    exact ⟨by simp [hab], (by repeat' (first | exact Below.refl _ _ | (refine Below.setCell ?_ (by first | (simp; done) | (simp; omega) | omega) _) | (refine Below.drew ?_) | (refine Below.drewN ?_ _) | (refine Below.alloc ?_ (by first | (simp; done) | (simp; omega) | omega) _)))⟩
end Go.Proofs.Ytdafilfnmdfacaa
