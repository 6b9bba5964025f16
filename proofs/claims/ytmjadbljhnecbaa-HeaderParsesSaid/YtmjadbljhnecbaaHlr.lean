/-
  The walk of HeaderParses, where there is no error. Over this seat's translation; a text is no longer than a slice may be.
-/
import Derived.Test.YtmjadbljhnecbaaHlp
namespace Go.Proofs.Ytmjadbljhnecbaa
open Go.RowKit

set_option maxRecDepth 100000 in
set_option maxHeartbeats 8000000 in
theorem parses5_ok (t : ByteArray) (n : Int) (w : World) (ht : t.size ≤ maxLen) (n0 : 0 ≤ n) (n1 : n < 4294967296) (s : ByteArray) (hs : fewB t ++ zS (n % 1000000).toNat = s) (hz : s.size ≤ maxLen) (hE : wholeE s = 0) :
    Calls Try.prog 3 #[.string t, .int .u32 n] w fun e w' => e = .returned (.bool true) ∧ Below w.heap.size w w' := by
  have KA := Lib.hid (fun wr => hawake_ct wr)
  have KF := Lib.hid (fun wr => hfew_ct t wr ht)
  have KZ := fun wr => zeros_ct (fewB t) n wr (by have := fewB_le t; omega) n0 n1
  rw [hs] at KZ
  have HZ := Lib.hid KZ
  have K1 := fun wr => parse_ok s wr hz _ rfl hE
  have K2 := fun wr => whole_ok s wr hz hE
  have K3 := fun wr => hsplit_ok s wr hz hE
  obtain ⟨T0, T1, c0, p0, p1, g0, g1, hlen⟩ := whole_fine s hE
  have gv : givN (hdrC s) = if (hdrC s).o = true then 0 else (hdrC s).k := rfl
  generalize givN (hdrC s) = g at *
  generalize hdrC s = c at *
  generalize atN s = T at *
  obtain ⟨m, sb, p, k, b, f, v, tw, o⟩ := c
  simp only [crtV] at K1 K2 K3
  dsimp only at p0 p1 gv hlen
  unfold maxLen at hz
  have H1 := Lib.hid K1
  have H2 := Lib.hid K2
  have H3 := Lib.hid K3
  clear KZ K1 K2 K3 hs hE ht n0 n1 c0
  generalize fewB t = t' at *
  cases o
  · simp only [Bool.false_eq_true, if_false] at gv
    subst gv
    have i0 : T ≤ T + p := by omega
    have i1 : T + p ≤ T + p + g := by omega
    have i2 : T + p ≤ (s.size : Int) := by omega
    have i3 : 0 ≤ T + p := by omega
    have i4 : 0 ≤ T + p + g := by omega
    go_enter Try.func3, Try.ntmps3
    go_wp2_with fail
    ((with_reducible refine (KF.out _).mono ?_))
    rintro e w1 ⟨rfl, hB⟩
    have HB := Lib.hid hB
    clear hB
    go_wp2_with fail
    ((with_reducible refine (HZ.out _).mono ?_))
    rintro e w2 ⟨rfl, hB⟩
    replace HB := Lib.hid (HB.out.next hB)
    clear hB
    go_wp2_with fail
    ((with_reducible refine (H1.out _).mono ?_))
    rintro e w3 ⟨rfl, hB⟩
    replace HB := Lib.hid (HB.out.next hB)
    clear hB
    have Z0 := CX.new w3 ⟨m, sb, p, g, b, f, v, tw, false⟩
    go_wp2_with fail
    ((with_reducible refine (H2.out _).mono ?_))
    rintro e w4 ⟨rfl, hB⟩
    have HC := Lib.hid (Z0.next hB)
    have BN : Below w3.heap.size w3 w4 := (by repeat' (first | exact Below.refl _ _ | (refine Below.setCell ?_ (by first | (simp; done) | (simp; omega) | omega) _) | (refine Below.drew ?_) | (refine Below.drewN ?_ _) | (refine Below.alloc ?_ (by first | (simp; done) | (simp; omega) | omega) _) | (refine Below.trans ?_ (Below.mono hB (by first | (simp; done) | (simp; omega) | omega)))))
    replace HB := Lib.hid (HB.out.next BN)
    clear hB Z0 BN
    have Y0 := CX.new w4 ⟨m, sb, p, g, b, f, v, tw, false⟩
    go_wp2_with fail
    ((with_reducible refine (H3.out _).mono ?_))
    rintro e w5 ⟨rfl, hB⟩
    have HD := Lib.hid (Y0.next hB)
    have BN : Below w4.heap.size w4 w5 := (by repeat' (first | exact Below.refl _ _ | (refine Below.setCell ?_ (by first | (simp; done) | (simp; omega) | omega) _) | (refine Below.drew ?_) | (refine Below.drewN ?_ _) | (refine Below.alloc ?_ (by first | (simp; done) | (simp; omega) | omega) _) | (refine Below.trans ?_ (Below.mono hB (by first | (simp; done) | (simp; omega) | omega)))))
    replace HC := Lib.hid (HC.out.next BN)
    replace HB := Lib.hid (HB.out.next BN)
    clear hB Y0 BN
    have C := HC.out
    have D := HD.out
    (skip); have Cz := C.lt; have C0 := C.c0; have C1 := C.c1; have C2 := C.c2; have C3 := C.c3; have C4 := C.c4; have C5 := C.c5; have C6 := C.c6; have C7 := C.c7; have C8 := C.c8; (try dsimp only at C0 C1 C2 C3 C4 C5 C6 C7 C8); have Dz := D.lt; have D0 := D.c0; have D1 := D.c1; have D2 := D.c2; have D3 := D.c3; have D4 := D.c4; have D5 := D.c5; have D6 := D.c6; have D7 := D.c7; have D8 := D.c8; (try dsimp only at D0 D1 D2 D3 D4 D5 D6 D7 D8)
    clear C D
    go_wp2_with fail
    ((with_reducible refine (KA.out _).mono ?_))
    rintro e w6 ⟨rfl, hB⟩
    have BN : Below w5.heap.size w5 w6 := (by repeat' (first | exact Below.refl _ _ | (refine Below.setCell ?_ (by first | (simp; done) | (simp; omega) | omega) _) | (refine Below.drew ?_) | (refine Below.drewN ?_ _) | (refine Below.alloc ?_ (by first | (simp; done) | (simp; omega) | omega) _) | (refine Below.trans ?_ (Below.mono hB (by first | (simp; done) | (simp; omega) | omega)))))
    replace HB := Lib.hid (HB.out.next BN)
    clear hB BN
    go_wp2
    go_ret
    exact ⟨rfl, HB.out⟩
  · simp only [if_true] at gv
    subst gv
    have i0 : T ≤ T + p := by omega
    have i2 : T + p ≤ (s.size : Int) := by omega
    have i3 : 0 ≤ T + p := by omega
    rw [show T + p + 0 = T + p by omega, extract_none] at H3
    go_enter Try.func3, Try.ntmps3
    go_wp2_with fail
    ((with_reducible refine (KF.out _).mono ?_))
    rintro e w1 ⟨rfl, hB⟩
    have HB := Lib.hid hB
    clear hB
    go_wp2_with fail
    ((with_reducible refine (HZ.out _).mono ?_))
    rintro e w2 ⟨rfl, hB⟩
    replace HB := Lib.hid (HB.out.next hB)
    clear hB
    go_wp2_with fail
    ((with_reducible refine (H1.out _).mono ?_))
    rintro e w3 ⟨rfl, hB⟩
    replace HB := Lib.hid (HB.out.next hB)
    clear hB
    have Z0 := CX.new w3 ⟨m, sb, p, k, b, f, v, tw, true⟩
    go_wp2_with fail
    ((with_reducible refine (H2.out _).mono ?_))
    rintro e w4 ⟨rfl, hB⟩
    have HC := Lib.hid (Z0.next hB)
    have BN : Below w3.heap.size w3 w4 := (by repeat' (first | exact Below.refl _ _ | (refine Below.setCell ?_ (by first | (simp; done) | (simp; omega) | omega) _) | (refine Below.drew ?_) | (refine Below.drewN ?_ _) | (refine Below.alloc ?_ (by first | (simp; done) | (simp; omega) | omega) _) | (refine Below.trans ?_ (Below.mono hB (by first | (simp; done) | (simp; omega) | omega)))))
    replace HB := Lib.hid (HB.out.next BN)
    clear hB Z0 BN
    have Y0 := CX.new w4 ⟨m, sb, p, k, b, f, v, tw, true⟩
    go_wp2_with fail
    ((with_reducible refine (H3.out _).mono ?_))
    rintro e w5 ⟨rfl, hB⟩
    have HD := Lib.hid (Y0.next hB)
    have BN : Below w4.heap.size w4 w5 := (by repeat' (first | exact Below.refl _ _ | (refine Below.setCell ?_ (by first | (simp; done) | (simp; omega) | omega) _) | (refine Below.drew ?_) | (refine Below.drewN ?_ _) | (refine Below.alloc ?_ (by first | (simp; done) | (simp; omega) | omega) _) | (refine Below.trans ?_ (Below.mono hB (by first | (simp; done) | (simp; omega) | omega)))))
    replace HC := Lib.hid (HC.out.next BN)
    replace HB := Lib.hid (HB.out.next BN)
    clear hB Y0 BN
    have C := HC.out
    have D := HD.out
    (skip); have Cz := C.lt; have C0 := C.c0; have C1 := C.c1; have C2 := C.c2; have C3 := C.c3; have C4 := C.c4; have C5 := C.c5; have C6 := C.c6; have C7 := C.c7; have C8 := C.c8; (try dsimp only at C0 C1 C2 C3 C4 C5 C6 C7 C8); have Dz := D.lt; have D0 := D.c0; have D1 := D.c1; have D2 := D.c2; have D3 := D.c3; have D4 := D.c4; have D5 := D.c5; have D6 := D.c6; have D7 := D.c7; have D8 := D.c8; (try dsimp only at D0 D1 D2 D3 D4 D5 D6 D7 D8)
    clear C D
    go_wp2_with fail
    ((with_reducible refine (KA.out _).mono ?_))
    rintro e w6 ⟨rfl, hB⟩
    have BN : Below w5.heap.size w5 w6 := (by repeat' (first | exact Below.refl _ _ | (refine Below.setCell ?_ (by first | (simp; done) | (simp; omega) | omega) _) | (refine Below.drew ?_) | (refine Below.drewN ?_ _) | (refine Below.alloc ?_ (by first | (simp; done) | (simp; omega) | omega) _) | (refine Below.trans ?_ (Below.mono hB (by first | (simp; done) | (simp; omega) | omega)))))
    replace HB := Lib.hid (HB.out.next BN)
    clear hB BN
    go_wp2
    go_ret
    exact ⟨rfl, HB.out⟩
end Go.Proofs.Ytmjadbljhnecbaa
