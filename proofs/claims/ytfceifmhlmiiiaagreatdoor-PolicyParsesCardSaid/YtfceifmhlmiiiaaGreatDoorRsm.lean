/-
  Whether two policies are the same, as the document tells it. Over this seat's translation; no condition.
-/
import Derived.Test.YtfceifmhlmiiiaaGreatDoorPck
import Derived.Test.YtfceifmhlmiiiaaGreatDoorRgb
namespace Go.Proofs.YtfceifmhlmiiiaaGreatDoor
open Go.RowKit

set_option maxRecDepth 100000 in
set_option maxHeartbeats 2000000 in
theorem rpsame_ct (p q p2 q2 : Bool) (sv tv sv2 tv2 : Value) (ra sa rb sb : List (Int × Int)) (w : World) (h1 : Rg w sv ra) (h2 : Rg w tv sa) (h3 : Rg w sv2 rb) (h4 : Rg w tv2 sb) :
    Calls Tryz.prog 6 #[polV p q sv tv, polV p2 q2 sv2 tv2] w fun e w' => e = .returned (.bool ((p == p2) && ((q == q2) && (eqL ra rb && eqL sa sb)))) ∧ Below w.heap.size w w' := by
  have K1 : Hid (∀ wr, Below w.heap.size w wr → Calls Tryz.prog 14 #[sv, sv2] wr fun e w' => e = .returned (.bool (eqL ra rb)) ∧ Below wr.heap.size wr w') := fun wr h => sameR_ct _ _ _ _ wr (h1.below h) (h3.below h)
  have K2 : Hid (∀ wr, Below w.heap.size w wr → Calls Tryz.prog 14 #[tv, tv2] wr fun e w' => e = .returned (.bool (eqL sa sb)) ∧ Below wr.heap.size wr w') := fun wr h => sameR_ct _ _ _ _ wr (h2.below h) (h4.below h)
  obtain ⟨a1, c1, rfl, _⟩ := h1
  obtain ⟨a2, c2, rfl, _⟩ := h2
  obtain ⟨a3, c3, rfl, _⟩ := h3
  obtain ⟨a4, c4, rfl, _⟩ := h4
  unfold polV
  obtain ⟨x, hx⟩ : ∃ x, (p == p2) = x := ⟨_, rfl⟩
  obtain ⟨y, hy⟩ : ∃ x, (q == q2) = x := ⟨_, rfl⟩
  obtain ⟨z, hz⟩ : ∃ x, eqL ra rb = x := ⟨_, rfl⟩
  obtain ⟨u, hu⟩ : ∃ x, eqL sa sb = x := ⟨_, rfl⟩
  rw [hx, hy, hz, hu]
  rw [hz] at K1
  rw [hu] at K2
  clear hz hu
  cases x
  · go_enter Tryz.func6, Tryz.ntmps6
    go_wp2
    go_ret
    exact ⟨rfl, (by repeat' (first | exact Below.refl _ _ | (refine Below.setCell ?_ (by first | (simp; done) | (simp; omega) | omega) _) | (refine Below.drew ?_) | (refine Below.drewN ?_ _) | (refine Below.alloc ?_ (by first | (simp; done) | (simp; omega) | omega) _)))⟩
  · cases y
    · go_enter Tryz.func6, Tryz.ntmps6
      go_wp2
      go_ret
      exact ⟨rfl, (by repeat' (first | exact Below.refl _ _ | (refine Below.setCell ?_ (by first | (simp; done) | (simp; omega) | omega) _) | (refine Below.drew ?_) | (refine Below.drewN ?_ _) | (refine Below.alloc ?_ (by first | (simp; done) | (simp; omega) | omega) _)))⟩
    · cases z
      · go_enter Tryz.func6, Tryz.ntmps6
        go_wp2_with fail
        ((with_reducible refine (K1.out _ (by repeat' (first | exact Below.refl _ _ | (refine Below.setCell ?_ (by first | (simp; done) | (simp; omega) | omega) _) | (refine Below.drew ?_) | (refine Below.drewN ?_ _) | (refine Below.alloc ?_ (by first | (simp; done) | (simp; omega) | omega) _)))).mono ?_))
        rintro e w1 ⟨rfl, hB1⟩
        go_wp2
        go_ret
        exact ⟨rfl, (by repeat' (first | exact Below.refl _ _ | (refine Below.setCell ?_ (by first | (simp; done) | (simp; omega) | omega) _) | (refine Below.drew ?_) | (refine Below.drewN ?_ _) | (refine Below.alloc ?_ (by first | (simp; done) | (simp; omega) | omega) _) | (refine Below.trans ?_ (Below.mono hB1 (by first | (simp; done) | (simp; omega) | omega)))))⟩
      · go_enter Tryz.func6, Tryz.ntmps6
        go_wp2_with fail
        ((with_reducible refine (K1.out _ (by repeat' (first | exact Below.refl _ _ | (refine Below.setCell ?_ (by first | (simp; done) | (simp; omega) | omega) _) | (refine Below.drew ?_) | (refine Below.drewN ?_ _) | (refine Below.alloc ?_ (by first | (simp; done) | (simp; omega) | omega) _)))).mono ?_))
        rintro e w1 ⟨rfl, hB1⟩
        have hb1 : Below w.heap.size w w1 := (by repeat' (first | exact Below.refl _ _ | (refine Below.setCell ?_ (by first | (simp; done) | (simp; omega) | omega) _) | (refine Below.drew ?_) | (refine Below.drewN ?_ _) | (refine Below.alloc ?_ (by first | (simp; done) | (simp; omega) | omega) _) | (refine Below.trans ?_ (Below.mono hB1 (by first | (simp; done) | (simp; omega) | omega)))))
        obtain ⟨hc1, hf1⟩ := bcell hB1
        simp at hc1 hf1
        go_wp2_with fail
        ((with_reducible refine (K2.out _ hb1).mono ?_))
        rintro e w2 ⟨rfl, hB2⟩
        have hb2 := hb1.next hB2
        go_wp2
        go_ret
        exact ⟨rfl, hb2⟩
end Go.Proofs.YtfceifmhlmiiiaaGreatDoor
