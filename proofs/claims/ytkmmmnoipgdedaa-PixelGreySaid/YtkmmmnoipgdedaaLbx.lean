/-
  Contracts of package label's functions that put bytes together, over this seat's translation. No condition but that a byte's value is from 0 to 255 where it is said.
-/
import Derived.Test.YtkmmmnoipgdedaaLbl
namespace Go.Proofs.Ytkmmmnoipgdedaa
open Go.RowKit

set_option maxHeartbeats 400000 in
theorem of_ct (v : Int) (sv : Value) (l : List (Int × Bool)) (w : World) (hr : Rd w sv l) :
    Calls Try.prog 21 #[.int .u8 v, sv] w fun e w' => e = .returned (.agg #[.int .u8 v, .bool (anyS l)]) ∧ Below w.heap.size w w' := by
  have hr' := fun o => hr.below ((Below.refl _ _).alloc (Nat.le_refl _) o)
  have Hr := Lib.hid hr'
  clear hr' hr
  go_enter Try.func21, Try.ntmps21
  go_wp2_with fail
  refine (any_ct _ l _ (Hr.out _)).mono ?_
  rintro e w1 ⟨rfl, hB⟩
  obtain ⟨hc, hf⟩ := bcell hB
  simp at hc hf
  go_wp2
  exact bodyPost_ret (v := .agg #[.int .u8 v, .bool (anyS l)]) (by simp [results, Try.results21, go_sem, hc]) rfl ⟨rfl, (by repeat' (first | exact Below.refl _ _ | (refine Below.setCell ?_ (by first | (simp; done) | (simp; omega) | omega) _) | (refine Below.drew ?_) | (refine Below.drewN ?_ _) | (refine Below.alloc ?_ (by first | (simp; done) | (simp; omega) | omega) _) | (refine Below.trans ?_ (Below.mono hB (by first | (simp; done) | (simp; omega) | omega)))))⟩

end Go.Proofs.Ytkmmmnoipgdedaa
