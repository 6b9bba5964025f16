/-
  HeaderBack: where there is no header. Over this seat's translation; no condition.
-/
import Derived.Test.YtaljenjnedijgaaHlb
namespace Go.Proofs.Ytaljenjnedijgaa
open Go.RowKit

set_option maxRecDepth 100000 in
set_option maxHeartbeats 4000000 in
theorem back5_no (c : Crt) (more : Int) (w : World) (h : chkN c ≠ 0) : Calls Try.prog 3 #[crtV c, .int .u8 more] w fun e w' => e = .returned (.bool true) ∧ Below w.heap.size w w' := by
  have KA := Lib.hid (fun wr => hawake_ct wr)
  have K1 := fun wr => hmake_no c wr h
  obtain ⟨E, hE⟩ : ∃ E, chkN c = E := ⟨_, rfl⟩
  rw [hE] at K1 h
  have h' : (E == 0) = false := by simpa using h
  have hu : (E != 0) = true := by simp [h]
  unfold crtV at K1 ⊢
  have H1 := Lib.hid K1
  clear K1 hE
  go_enter Try.func3, Try.ntmps3
  go_wp2_with fail
  ((with_reducible refine (H1.out _).mono ?_))
  rintro e w1 ⟨rfl, hB⟩
  have B : Below w.heap.size w w1 := (by repeat' (first | exact Below.refl _ _ | (refine Below.setCell ?_ (by first | (simp; done) | (simp; omega) | omega) _) | (refine Below.drew ?_) | (refine Below.drewN ?_ _) | (refine Below.alloc ?_ (by first | (simp; done) | (simp; omega) | omega) _) | (refine Below.trans ?_ (Below.mono hB (by first | (simp; done) | (simp; omega) | omega)))))
  clear hB
  go_wp2_with fail
  ((with_reducible refine (KA.out _).mono ?_))
  rintro e w2 ⟨rfl, hB⟩
  have HB := Lib.hid (B.next hB)
  clear hB B
  go_wp2
  go_ret
  exact ⟨rfl, HB.out⟩
end Go.Proofs.Ytaljenjnedijgaa
