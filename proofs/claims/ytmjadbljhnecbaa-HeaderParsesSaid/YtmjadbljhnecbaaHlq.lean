/-
  The walk of HeaderParses. Over this seat's translation; a text is no longer than a slice may be.
-/
import Derived.Test.YtmjadbljhnecbaaHlp
namespace Go.Proofs.Ytmjadbljhnecbaa
open Go.RowKit

set_option maxRecDepth 100000 in
set_option maxHeartbeats 4000000 in
theorem parses5_err (t : ByteArray) (n : Int) (w : World) (ht : t.size ≤ maxLen) (n0 : 0 ≤ n) (n1 : n < 4294967296) (s : ByteArray) (hs : fewB t ++ zS (n % 1000000).toNat = s) (hz : s.size ≤ maxLen) (E : Int) (hE : wholeE s = E) (h0 : E ≠ 0) :
    Calls Try.prog 3 #[.string t, .int .u32 n] w fun e w' => e = .returned (.bool true) ∧ Below w.heap.size w w' := by
  have KA := Lib.hid (fun wr => hawake_ct wr)
  have KF := Lib.hid (fun wr => hfew_ct t wr ht)
  have KZ := fun wr => zeros_ct (fewB t) n wr (by have := fewB_le t; omega) n0 n1
  rw [hs] at KZ
  have HZ := Lib.hid KZ
  have K1 := fun wr => parse_err s wr hz E hE h0
  have K2 := fun wr => whole_err s wr hz E hE h0
  have K3 := fun wr => hsplit_err s wr hz E hE h0
  have h0' : (E == 0) = false := by simpa using h0
  unfold crtV at K1 K2 K3
  have H1 := Lib.hid K1
  have H2 := Lib.hid K2
  have H3 := Lib.hid K3
  clear KZ K1 K2 K3 hs hE hz ht n0 n1
  generalize fewB t = t' at *
  go_enter Try.func3, Try.ntmps3
  go_wp2_with fail
  ((with_reducible refine (KF.out _).mono ?_))
  rintro e w1 ⟨rfl, hB⟩
  have HB := Lib.hid hB
  clear hB
  go_wp2_with fail
  ((with_reducible refine (HZ.out _).mono ?_))
  rintro e w2 ⟨rfl, hB⟩
  replace HB := Lib.hid (HB.out.next hB)
  clear hB
  go_wp2_with fail
  ((with_reducible refine (H1.out _).mono ?_))
  rintro e w3 ⟨rfl, hB⟩
  replace HB := Lib.hid (HB.out.next hB)
  clear hB
  have Z0 := CX.new w3 crt0
  go_wp2_with fail
  ((with_reducible refine (H2.out _).mono ?_))
  rintro e w4 ⟨rfl, hB⟩
  have HC := Lib.hid (Z0.next hB)
  have BN : Below w3.heap.size w3 w4 := (by repeat' (first | exact Below.refl _ _ | (refine Below.setCell ?_ (by first | (simp; done) | (simp; omega) | omega) _) | (refine Below.drew ?_) | (refine Below.drewN ?_ _) | (refine Below.alloc ?_ (by first | (simp; done) | (simp; omega) | omega) _) | (refine Below.trans ?_ (Below.mono hB (by first | (simp; done) | (simp; omega) | omega)))))
  replace HB := Lib.hid (HB.out.next BN)
  clear hB Z0 BN
  have Y0 := CX.new w4 crt0
  go_wp2_with fail
  ((with_reducible refine (H3.out _).mono ?_))
  rintro e w5 ⟨rfl, hB⟩
  have HD := Lib.hid (Y0.next hB)
  have BN : Below w4.heap.size w4 w5 := (by repeat' (first | exact Below.refl _ _ | (refine Below.setCell ?_ (by first | (simp; done) | (simp; omega) | omega) _) | (refine Below.drew ?_) | (refine Below.drewN ?_ _) | (refine Below.alloc ?_ (by first | (simp; done) | (simp; omega) | omega) _) | (refine Below.trans ?_ (Below.mono hB (by first | (simp; done) | (simp; omega) | omega)))))
  replace HC := Lib.hid (HC.out.next BN)
  replace HB := Lib.hid (HB.out.next BN)
  clear hB Y0 BN
  have C := HC.out
  have D := HD.out
  unfold crt0 at C D
  (skip); have Cz := C.lt; have C0 := C.c0; have C1 := C.c1; have C2 := C.c2; have C3 := C.c3; have C4 := C.c4; have C5 := C.c5; have C6 := C.c6; have C7 := C.c7; have C8 := C.c8; (try dsimp only at C0 C1 C2 C3 C4 C5 C6 C7 C8); have Dz := D.lt; have D0 := D.c0; have D1 := D.c1; have D2 := D.c2; have D3 := D.c3; have D4 := D.c4; have D5 := D.c5; have D6 := D.c6; have D7 := D.c7; have D8 := D.c8; (try dsimp only at D0 D1 D2 D3 D4 D5 D6 D7 D8)
  clear C D
  go_wp2_with fail
  ((with_reducible refine (KA.out _).mono ?_))
  rintro e w6 ⟨rfl, hB⟩
  have BN : Below w5.heap.size w5 w6 := (by repeat' (first | exact Below.refl _ _ | (refine Below.setCell ?_ (by first | (simp; done) | (simp; omega) | omega) _) | (refine Below.drew ?_) | (refine Below.drewN ?_ _) | (refine Below.alloc ?_ (by first | (simp; done) | (simp; omega) | omega) _) | (refine Below.trans ?_ (Below.mono hB (by first | (simp; done) | (simp; omega) | omega)))))
  replace HB := Lib.hid (HB.out.next BN)
  clear hB BN
  go_wp2
  go_ret
  exact ⟨rfl, HB.out⟩
end Go.Proofs.Ytmjadbljhnecbaa
