/-
  The walk of HeaderMakes. Over this seat's translation; no condition.
-/
import Derived.Test.YtmjadbljhnecbaaHax
import Derived.Test.YtmjadbljhnecbaaHrm
import Derived.Test.YtmjadbljhnecbaaHrb
namespace Go.Proofs.Ytmjadbljhnecbaa
open Go.RowKit

set_option maxRecDepth 100000 in
set_option maxHeartbeats 4000000 in
theorem makes5_walk (c : Crt) (w : World) : Calls Try.prog 4 #[crtV c] w fun e w' => e = .returned (.bool true) ∧ Below w.heap.size w w' := by
  have KA := Lib.hid (fun wr => hawake_ct wr)
  have KR := fun wr => rcheck_ct c wr
  have KH := fun wr => hcheck_ct c wr
  have X0 := CX.new w c
  by_cases h0 : chkN c = 0
  · have KM := fun wr => hmake_yes c wr h0
    have KN := fun wr => rmake_yes c wr h0
    rw [h0] at KR KH
    generalize mkS c = S at KM KN
    unfold crtV at KR KH KM KN ⊢
    have HR := Lib.hid KR
    have HH := Lib.hid KH
    have HM := Lib.hid KM
    have HN := Lib.hid KN
    clear KR KH KM KN h0
    go_enter Try.func4, Try.ntmps4
    go_wp2_with fail
    ((with_reducible refine (HM.out _).mono ?_))
    rintro e w1 ⟨rfl, hB⟩
    have HC := Lib.hid (X0.next hB)
    have B : Below w.heap.size w w1 := (by repeat' (first | exact Below.refl _ _ | (refine Below.setCell ?_ (by first | (simp; done) | (simp; omega) | omega) _) | (refine Below.drew ?_) | (refine Below.drewN ?_ _) | (refine Below.alloc ?_ (by first | (simp; done) | (simp; omega) | omega) _) | (refine Below.trans ?_ (Below.mono hB (by first | (simp; done) | (simp; omega) | omega)))))
    have HB := Lib.hid B
    clear hB B X0
    have C := HC.out
    (skip); have Cz := C.lt; have C0 := C.c0; have C1 := C.c1; have C2 := C.c2; have C3 := C.c3; have C4 := C.c4; have C5 := C.c5; have C6 := C.c6; have C7 := C.c7; have C8 := C.c8; (try dsimp only at C0 C1 C2 C3 C4 C5 C6 C7 C8)
    clear C
    go_wp2_with fail
    ((with_reducible refine (HR.out _).mono ?_))
    rintro e w2 ⟨rfl, hB⟩
    replace HC := Lib.hid (HC.out.next hB)
    replace HB := Lib.hid (HB.out.next hB)
    clear hB Cz C0 C1 C2 C3 C4 C5 C6 C7 C8
    have C := HC.out
    (skip); have Cz := C.lt; have C0 := C.c0; have C1 := C.c1; have C2 := C.c2; have C3 := C.c3; have C4 := C.c4; have C5 := C.c5; have C6 := C.c6; have C7 := C.c7; have C8 := C.c8; (try dsimp only at C0 C1 C2 C3 C4 C5 C6 C7 C8)
    clear C
    go_wp2_with fail
    ((with_reducible refine (HH.out _).mono ?_))
    rintro e w3 ⟨rfl, hB⟩
    replace HC := Lib.hid (HC.out.next hB)
    replace HB := Lib.hid (HB.out.next hB)
    clear hB Cz C0 C1 C2 C3 C4 C5 C6 C7 C8
    have C := HC.out
    (skip); have Cz := C.lt; have C0 := C.c0; have C1 := C.c1; have C2 := C.c2; have C3 := C.c3; have C4 := C.c4; have C5 := C.c5; have C6 := C.c6; have C7 := C.c7; have C8 := C.c8; (try dsimp only at C0 C1 C2 C3 C4 C5 C6 C7 C8)
    clear C
    go_wp2_with fail
    ((with_reducible refine (HN.out _).mono ?_))
    rintro e w4 ⟨rfl, hB⟩
    replace HB := Lib.hid (HB.out.next hB)
    clear hB Cz C0 C1 C2 C3 C4 C5 C6 C7 C8
    go_wp2_with fail
    ((with_reducible refine (KA.out _).mono ?_))
    rintro e w5 ⟨rfl, hB⟩
    replace HB := Lib.hid (HB.out.next hB)
    clear hB
    go_wp2
    go_ret
    exact ⟨rfl, HB.out⟩
  · have KM := fun wr => hmake_no c wr h0
    obtain ⟨E, hE⟩ : ∃ E, chkN c = E := ⟨_, rfl⟩
    rw [hE] at KR KH KM h0
    have h0' : (E == 0) = false := by simpa using h0
    unfold crtV at KR KH KM ⊢
    have HR := Lib.hid KR
    have HH := Lib.hid KH
    have HM := Lib.hid KM
    clear KR KH KM hE
    go_enter Try.func4, Try.ntmps4
    go_wp2_with fail
    ((with_reducible refine (HM.out _).mono ?_))
    rintro e w1 ⟨rfl, hB⟩
    have HC := Lib.hid (X0.next hB)
    have B : Below w.heap.size w w1 := (by repeat' (first | exact Below.refl _ _ | (refine Below.setCell ?_ (by first | (simp; done) | (simp; omega) | omega) _) | (refine Below.drew ?_) | (refine Below.drewN ?_ _) | (refine Below.alloc ?_ (by first | (simp; done) | (simp; omega) | omega) _) | (refine Below.trans ?_ (Below.mono hB (by first | (simp; done) | (simp; omega) | omega)))))
    have HB := Lib.hid B
    clear hB B X0
    have C := HC.out
    (skip); have Cz := C.lt; have C0 := C.c0; have C1 := C.c1; have C2 := C.c2; have C3 := C.c3; have C4 := C.c4; have C5 := C.c5; have C6 := C.c6; have C7 := C.c7; have C8 := C.c8; (try dsimp only at C0 C1 C2 C3 C4 C5 C6 C7 C8)
    clear C
    go_wp2_with fail
    ((with_reducible refine (HR.out _).mono ?_))
    rintro e w2 ⟨rfl, hB⟩
    replace HC := Lib.hid (HC.out.next hB)
    replace HB := Lib.hid (HB.out.next hB)
    clear hB Cz C0 C1 C2 C3 C4 C5 C6 C7 C8
    have C := HC.out
    (skip); have Cz := C.lt; have C0 := C.c0; have C1 := C.c1; have C2 := C.c2; have C3 := C.c3; have C4 := C.c4; have C5 := C.c5; have C6 := C.c6; have C7 := C.c7; have C8 := C.c8; (try dsimp only at C0 C1 C2 C3 C4 C5 C6 C7 C8)
    clear C
    go_wp2_with fail
    ((with_reducible refine (HH.out _).mono ?_))
    rintro e w3 ⟨rfl, hB⟩
    replace HB := Lib.hid (HB.out.next hB)
    clear hB Cz C0 C1 C2 C3 C4 C5 C6 C7 C8
    go_wp2_with fail
    ((with_reducible refine (KA.out _).mono ?_))
    rintro e w5 ⟨rfl, hB⟩
    replace HB := Lib.hid (HB.out.next hB)
    clear hB
    go_wp2
    go_ret
    exact ⟨rfl, HB.out⟩
end Go.Proofs.Ytmjadbljhnecbaa
