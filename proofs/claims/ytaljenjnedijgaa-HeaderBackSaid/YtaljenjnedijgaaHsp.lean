/-
  Package header's Split and Parse. Over this seat's translation; a text is no longer than a slice may be.
-/
import Derived.Test.YtaljenjnedijgaaHcl
import Derived.Test.YtaljenjnedijgaaHwd
namespace Go.Proofs.Ytaljenjnedijgaa
open Go.RowKit

/-- What Split hands back. -/
def splitV (s : ByteArray) : Value := if wholeE s = 0 then .tuple #[crtV (hdrC s), .string (s.extract (atN s).toNat (atN s + (hdrC s).p).toNat), .string (s.extract (atN s + (hdrC s).p).toNat (atN s + (hdrC s).p + givN (hdrC s)).toNat), .int .i64 0] else .tuple #[crtV crt0, .string ⟨#[]⟩, .string ⟨#[]⟩, .int .i64 (wholeE s)]
def parseV (s : ByteArray) : Value := if wholeE s = 0 then .tuple #[crtV (hdrC s), .int .i64 0] else .tuple #[crtV crt0, .int .i64 (wholeE s)]
theorem wholeE_mag {s : ByteArray} (h : magB s = false) : wholeE s = 4 := by unfold wholeE; rw [h]; rfl
theorem wholeE_chk {s : ByteArray} (h : magB s = true) (h0 : chkN (hdrC s) ≠ 0) : wholeE s = chkN (hdrC s) := by unfold wholeE; rw [if_pos h, if_neg h0]
theorem wholeE_cut {s : ByteArray} (h : magB s = true) (h0 : chkN (hdrC s) = 0) (h1 : ¬ atN s + (hdrC s).p + givN (hdrC s) ≤ (s.size : Int)) : wholeE s = 5 := by unfold wholeE; rw [if_pos h, if_pos h0, if_neg h1]
theorem wholeE_all {s : ByteArray} (h : magB s = true) (h0 : chkN (hdrC s) = 0) (h1 : atN s + (hdrC s).p + givN (hdrC s) ≤ (s.size : Int)) : wholeE s = 0 := by unfold wholeE; rw [if_pos h, if_pos h0, if_pos h1]
set_option maxRecDepth 100000 in
set_option maxHeartbeats 8000000 in
theorem hsplit_y (s : ByteArray) (w : World) (hz : s.size ≤ maxLen) (h : magB s = true) : Calls Try.prog 9 #[.string s] w fun e w' => e = .returned (splitV s) ∧ Below w.heap.size w w' := by
  unfold maxLen at hz
  obtain ⟨W, hW⟩ : ∃ W, splitV s = W := ⟨_, rfl⟩
  rw [hW]
  have K0 := fun wr => hhead_y s wr h
  have K1 := fun wr => hcart_h s wr
  have K4 := fun wr => htrainer_h s wr
  have Ke := @wholeE_chk s h
  have Kc := @wholeE_cut s h
  have Ka := @wholeE_all s h
  obtain ⟨t0, t1⟩ := trn_in s
  have hat : atN s = 16 + trnN s := rfl
  obtain ⟨T, hT⟩ : ∃ T, trnN s = T := ⟨_, rfl⟩
  rw [hT] at K4 hat t0 t1
  obtain ⟨c, hc⟩ : ∃ c, hdrC s = c := ⟨_, rfl⟩
  rw [hc] at K1 Ke Kc Ka
  rw [hat] at Kc Ka
  have K2 := fun wr => hcheck_ct c wr
  have K3 := fun wr => hgiven_ct c wr
  obtain ⟨g, hg⟩ : ∃ g, givN c = g := ⟨_, rfl⟩
  obtain ⟨E, hE⟩ : ∃ E, chkN c = E := ⟨_, rfl⟩
  have hgi : chkN c = 0 → 0 ≤ g ∧ g ≤ 262144 := fun h => by rw [← hg]; exact giv_in h
  have hpi := @prg_in c
  rw [hg] at K3 Kc Ka
  rw [hE] at K2 Ke Kc Ka hgi hpi
  have hV : splitV s = if wholeE s = 0 then .tuple #[crtV c, .string (s.extract (16 + T).toNat (16 + T + c.p).toNat), .string (s.extract (16 + T + c.p).toNat (16 + T + c.p + g).toNat), .int .i64 0] else .tuple #[crtV crt0, .string ⟨#[]⟩, .string ⟨#[]⟩, .int .i64 (wholeE s)] := by
    unfold splitV
    rw [hc, hat, hg]
  rw [hW] at hV
  have HV := Lib.hid hV
  have HKe := Lib.hid Ke
  have HKc := Lib.hid Kc
  have HKa := Lib.hid Ka
  clear hW hV Ke Kc Ka hT hat hc hg hE h
  generalize hx s = x at *
  obtain ⟨m, sb, p, k, b, f, v, t, o⟩ := c
  simp only [crtV, hdV] at K0 K1 K2 K3 K4 hpi
  have H0 := Lib.hid K0
  have H1 := Lib.hid K1
  have H2 := Lib.hid K2
  have H3 := Lib.hid K3
  have H4 := Lib.hid K4
  clear K0 K1 K2 K3 K4
  dsimp only at HKe HKc HKa HV
  have Z0' := CX.new w crt0
  go_enter Try.func9, Try.ntmps9
  go_wp2_with fail
  ((with_reducible refine (H0.out _).mono ?_))
  rintro e w1 ⟨rfl, hB⟩
  have HZ := Lib.hid (Z0'.next hB)
  have B1 : Below w.heap.size w w1 := (by repeat' (first | exact Below.refl _ _ | (refine Below.setCell ?_ (by first | (simp; done) | (simp; omega) | omega) _) | (refine Below.drew ?_) | (refine Below.drewN ?_ _) | (refine Below.alloc ?_ (by first | (simp; done) | (simp; omega) | omega) _) | (refine Below.trans ?_ (Below.mono hB (by first | (simp; done) | (simp; omega) | omega)))))
  have HB := Lib.hid B1
  have hw1 := (Z0'.next hB).lt
  clear hB Z0' B1
  go_wp2_with fail
  ((with_reducible refine (H1.out _).mono ?_))
  rintro e w2 ⟨rfl, hB⟩
  have X := (HD.new w1 x).next hB
  have HX := Lib.hid X
  have BN : Below w1.heap.size w1 w2 := (by repeat' (first | exact Below.refl _ _ | (refine Below.setCell ?_ (by first | (simp; done) | (simp; omega) | omega) _) | (refine Below.drew ?_) | (refine Below.drewN ?_ _) | (refine Below.alloc ?_ (by first | (simp; done) | (simp; omega) | omega) _) | (refine Below.trans ?_ (Below.mono hB (by first | (simp; done) | (simp; omega) | omega)))))
  replace HZ := Lib.hid (HZ.out.next BN)
  replace HB := Lib.hid (HB.out.next BN)
  have hw12 : w1.heap.size < w2.heap.size := X.lt
  clear hB X BN H0 H1
  go_wp2_with fail
  ((with_reducible refine (H2.out _).mono ?_))
  rintro e w3 ⟨rfl, hB⟩
  have HC := Lib.hid ((CX.new w2 ⟨m, sb, p, k, b, f, v, t, o⟩).next hB)
  have BN : Below w2.heap.size w2 w3 := (by repeat' (first | exact Below.refl _ _ | (refine Below.setCell ?_ (by first | (simp; done) | (simp; omega) | omega) _) | (refine Below.drew ?_) | (refine Below.drewN ?_ _) | (refine Below.alloc ?_ (by first | (simp; done) | (simp; omega) | omega) _) | (refine Below.trans ?_ (Below.mono hB (by first | (simp; done) | (simp; omega) | omega)))))
  replace HX := Lib.hid (HX.out.next BN)
  replace HZ := Lib.hid (HZ.out.next BN)
  replace HB := Lib.hid (HB.out.next BN)
  clear hB BN H2
  have Z := HZ.out
  unfold crt0 at Z
  have C := HC.out
  (skip); have Cz := C.lt; have C0 := C.c0; have C1 := C.c1; have C2 := C.c2; have C3 := C.c3; have C4 := C.c4; have C5 := C.c5; have C6 := C.c6; have C7 := C.c7; have C8 := C.c8; (try dsimp only at C0 C1 C2 C3 C4 C5 C6 C7 C8); have Zz := Z.lt; have Z0 := Z.c0; have Z1 := Z.c1; have Z2 := Z.c2; have Z3 := Z.c3; have Z4 := Z.c4; have Z5 := Z.c5; have Z6 := Z.c6; have Z7 := Z.c7; have Z8 := Z.c8; (try dsimp only at Z0 Z1 Z2 Z3 Z4 Z5 Z6 Z7 Z8)
  have Cf := C.free
  have Zf := Z.free
  clear Z C
  by_cases hE0 : E = 0
  · subst hE0
    obtain ⟨g0, g1⟩ := hgi rfl
    obtain ⟨p0, p1⟩ := hpi rfl
    clear hgi hpi
    have X := HX.out
    (skip); have Xz := X.lt; have X0 := X.at 0 (by decide); have X1 := X.at 1 (by decide); have X2 := X.at 2 (by decide); have X3 := X.at 3 (by decide); have X4 := X.at 4 (by decide); have X5 := X.at 5 (by decide); have X6 := X.at 6 (by decide); have X7 := X.at 7 (by decide); have X8 := X.at 8 (by decide); have X9 := X.at 9 (by decide); have X10 := X.at 10 (by decide); have X11 := X.at 11 (by decide); have X12 := X.at 12 (by decide); have X13 := X.at 13 (by decide); have X14 := X.at 14 (by decide); have X15 := X.at 15 (by decide); have Xf := X.free
    clear X HX
    go_wp2_with fail
    ((with_reducible refine (H4.out _).mono ?_))
    rintro e w4 ⟨rfl, hB⟩
    replace HC := Lib.hid (HC.out.next hB)
    replace HZ := Lib.hid (HZ.out.next hB)
    replace HB := Lib.hid (HB.out.next hB)
    clear hB H4 Xz Xf X0 X1 X2 X3 X4 X5 X6 X7 X8 X9 X10 X11 X12 X13 X14 X15 Zz Zf Z0 Z1 Z2 Z3 Z4 Z5 Z6 Z7 Z8 Cz Cf C0 C1 C2 C3 C4 C5 C6 C7 C8
    have Z := HZ.out
    unfold crt0 at Z
    have C := HC.out
    (skip); have Cz := C.lt; have C0 := C.c0; have C1 := C.c1; have C2 := C.c2; have C3 := C.c3; have C4 := C.c4; have C5 := C.c5; have C6 := C.c6; have C7 := C.c7; have C8 := C.c8; (try dsimp only at C0 C1 C2 C3 C4 C5 C6 C7 C8); have Zz := Z.lt; have Z0 := Z.c0; have Z1 := Z.c1; have Z2 := Z.c2; have Z3 := Z.c3; have Z4 := Z.c4; have Z5 := Z.c5; have Z6 := Z.c6; have Z7 := Z.c7; have Z8 := Z.c8; (try dsimp only at Z0 Z1 Z2 Z3 Z4 Z5 Z6 Z7 Z8)
    have Cf := C.free
    have Zf := Z.free
    clear Z C
    go_wp2_with fail
    ((with_reducible refine (H3.out _).mono ?_))
    rintro e w5 ⟨rfl, hB⟩
    replace HC := Lib.hid (HC.out.next hB)
    replace HZ := Lib.hid (HZ.out.next hB)
    replace HB := Lib.hid (HB.out.next hB)
    clear hB H3 Zz Zf Z0 Z1 Z2 Z3 Z4 Z5 Z6 Z7 Z8 Cz Cf C0 C1 C2 C3 C4 C5 C6 C7 C8
    have Z := HZ.out
    unfold crt0 at Z
    have C := HC.out
    (skip); have Cz := C.lt; have C0 := C.c0; have C1 := C.c1; have C2 := C.c2; have C3 := C.c3; have C4 := C.c4; have C5 := C.c5; have C6 := C.c6; have C7 := C.c7; have C8 := C.c8; (try dsimp only at C0 C1 C2 C3 C4 C5 C6 C7 C8); have Zz := Z.lt; have Z0 := Z.c0; have Z1 := Z.c1; have Z2 := Z.c2; have Z3 := Z.c3; have Z4 := Z.c4; have Z5 := Z.c5; have Z6 := Z.c6; have Z7 := Z.c7; have Z8 := Z.c8; (try dsimp only at Z0 Z1 Z2 Z3 Z4 Z5 Z6 Z7 Z8)
    have Cf := C.free
    have Zf := Z.free
    clear Z C
    by_cases hsz : (s.size : Int) < 16 + T + p + g
    · go_wp2
      refine bodyPost_ret (v := .tuple #[crtV crt0, .string ⟨#[]⟩, .string ⟨#[]⟩, .int .i64 5]) (by simp [results, Try.results9, crtV, crt0, go_sem, Z0, Z1, Z2, Z3, Z4, Z5, Z6, Z7, Z8]) rfl ⟨congrArg Ending.returned ?_, (by repeat' (first | (with_reducible exact HB.out) | (with_reducible refine Below.setCell ?_ (by first | omega | (dsimp only; omega) | (simp; omega) | (simp; done)) _) | (with_reducible refine Below.alloc ?_ (by first | omega | (simp; omega) | (simp; done)) _) | (with_reducible refine Below.drew ?_) | (with_reducible exact Below.refl _ _)))⟩
      rw [HV.out, HKc.out (by first | rfl | trivial) (by omega), if_neg (by decide)]
    · have i0 : (0 : Int) ≤ 16 + T := by omega
      have i1 : 16 + T ≤ 16 + T + p := by omega
      have i2 : 16 + T + p ≤ 16 + T + p + g := by omega
      have i3 : 16 + T + p + g ≤ (s.size : Int) := by omega
      have i4 : 16 + T + p ≤ (s.size : Int) := by omega
      have i5 : (0 : Int) ≤ 16 + T + p := by omega
      have i6 : (0 : Int) ≤ 16 + T + p + g := by omega
      have Hs := Lib.hid hsz
      go_wp2
      go_region
      go_wp2
      refine bodyPost_ret (v := .tuple #[crtV ⟨m, sb, p, k, b, f, v, t, o⟩, .string (s.extract (16 + T).toNat (16 + T + p).toNat), .string (s.extract (16 + T + p).toNat (16 + T + p + g).toNat), .int .i64 0]) (by simp [results, Try.results9, crtV, go_sem, Z0, Z1, Z2, Z3, Z4, Z5, Z6, Z7, Z8]) rfl ⟨congrArg Ending.returned ?_, (by repeat' (first | (with_reducible exact HB.out) | (with_reducible refine Below.setCell ?_ (by first | omega | (dsimp only; omega) | (simp; omega) | (simp; done)) _) | (with_reducible refine Below.alloc ?_ (by first | omega | (simp; omega) | (simp; done)) _) | (with_reducible refine Below.drew ?_) | (with_reducible exact Below.refl _ _)))⟩
      rw [HV.out, HKa.out (by first | rfl | trivial) (by have := Hs.out; omega), if_pos rfl]
  · go_wp2
    refine bodyPost_ret (v := .tuple #[crtV crt0, .string ⟨#[]⟩, .string ⟨#[]⟩, .int .i64 E]) (by simp [results, Try.results9, crtV, crt0, go_sem, Z0, Z1, Z2, Z3, Z4, Z5, Z6, Z7, Z8]) rfl ⟨congrArg Ending.returned ?_, (by repeat' (first | (with_reducible exact HB.out) | (with_reducible refine Below.setCell ?_ (by first | omega | (dsimp only; omega) | (simp; omega) | (simp; done)) _) | (with_reducible refine Below.alloc ?_ (by first | omega | (simp; omega) | (simp; done)) _) | (with_reducible refine Below.drew ?_) | (with_reducible exact Below.refl _ _)))⟩
    rw [HV.out, HKe.out hE0, if_neg hE0]
end Go.Proofs.Ytaljenjnedijgaa
