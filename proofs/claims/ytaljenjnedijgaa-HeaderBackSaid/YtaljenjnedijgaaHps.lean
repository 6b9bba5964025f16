/-
  Package header's Parse, and least, Few and zeros of the law. Over this seat's translation.
-/
import Derived.Test.YtaljenjnedijgaaHsp
import Derived.Test.YtaljenjnedijgaaHmk
import Derived.Laws.MakeOwn
namespace Go.Proofs.Ytaljenjnedijgaa
open Go.RowKit

def emptyS : ByteArray := ⟨#[]⟩
theorem hsplit_ok (s : ByteArray) (w : World) (hz : s.size ≤ maxLen) (h : wholeE s = 0) : Calls Try.prog 9 #[.string s] w fun e w' => e = .returned (.tuple #[crtV (hdrC s), .string (s.extract (atN s).toNat (atN s + (hdrC s).p).toNat), .string (s.extract (atN s + (hdrC s).p).toNat (atN s + (hdrC s).p + givN (hdrC s)).toNat), .int .i64 0]) ∧ Below w.heap.size w w' := by
  cases hm : magB s
  · rw [wholeE_mag hm] at h; cases h
  · have := hsplit_y s w hz hm
    unfold splitV at this
    rw [if_pos h] at this
    exact this
theorem hsplit_err (s : ByteArray) (w : World) (hz : s.size ≤ maxLen) (E : Int) (h : wholeE s = E) (h0 : E ≠ 0) : Calls Try.prog 9 #[.string s] w fun e w' => e = .returned (.tuple #[crtV crt0, .string ⟨#[]⟩, .string ⟨#[]⟩, .int .i64 E]) ∧ Below w.heap.size w w' := by
  subst h
  cases hm : magB s
  · rw [wholeE_mag hm]; exact hsplit_mag s w hm
  · have := hsplit_y s w hz hm
    unfold splitV at this
    rw [if_neg h0] at this
    exact this
set_option maxRecDepth 100000 in
set_option maxHeartbeats 4000000 in
theorem parse_err (s : ByteArray) (w : World) (hz : s.size ≤ maxLen) (E : Int) (h : wholeE s = E) (h0 : E ≠ 0) : Calls Try.prog 8 #[.string s] w fun e w' => e = .returned (.tuple #[crtV crt0, .int .i64 E]) ∧ Below w.heap.size w w' := by
  have K := fun wr => hsplit_err s wr hz E h h0
  have Z0' := CX.new w crt0
  unfold crtV at K
  have HK := Lib.hid K
  clear K h h0 hz
  go_enter Try.func8, Try.ntmps8
  go_wp2_with fail
  ((with_reducible refine (HK.out _).mono ?_))
  rintro e w1 ⟨rfl, hB⟩
  have Z := Z0'.next hB
  have B : Below w.heap.size w w1 := (by repeat' (first | exact Below.refl _ _ | (refine Below.setCell ?_ (by first | (simp; done) | (simp; omega) | omega) _) | (refine Below.drew ?_) | (refine Below.drewN ?_ _) | (refine Below.alloc ?_ (by first | (simp; done) | (simp; omega) | omega) _) | (refine Below.trans ?_ (Below.mono hB (by first | (simp; done) | (simp; omega) | omega)))))
  unfold crt0 at Z
  (skip); have Zz := Z.lt; have Z0 := Z.c0; have Z1 := Z.c1; have Z2 := Z.c2; have Z3 := Z.c3; have Z4 := Z.c4; have Z5 := Z.c5; have Z6 := Z.c6; have Z7 := Z.c7; have Z8 := Z.c8; (try dsimp only at Z0 Z1 Z2 Z3 Z4 Z5 Z6 Z7 Z8)
  have Zf := Z.free
  have HB := Lib.hid B
  clear Z B hB Z0'
  go_wp2
  go_wp2
  refine bodyPost_ret (v := .tuple #[crtV crt0, .int .i64 E]) (by simp [results, Try.results8, crtV, crt0, go_sem, Zz, Z0, Z1, Z2, Z3, Z4, Z5, Z6, Z7, Z8]) rfl ⟨rfl, (by repeat' (first | (with_reducible exact HB.out) | (with_reducible refine Below.setCell ?_ (by first | omega | (dsimp only; omega) | (simp; omega) | (simp; done)) _) | (with_reducible refine Below.alloc ?_ (by first | omega | (simp; omega) | (simp; done)) _) | (with_reducible refine Below.drew ?_) | (with_reducible exact Below.refl _ _)))⟩
set_option maxRecDepth 100000 in
set_option maxHeartbeats 4000000 in
theorem parse_ok (s : ByteArray) (w : World) (hz : s.size ≤ maxLen) (c : Crt) (hc : hdrC s = c) (h : wholeE s = 0) : Calls Try.prog 8 #[.string s] w fun e w' => e = .returned (.tuple #[crtV c, .int .i64 0]) ∧ Below w.heap.size w w' := by
  have K := fun wr => hsplit_ok s wr hz h
  have Z0' := CX.new w crt0
  rw [hc] at K
  generalize s.extract (atN s).toNat (atN s + c.p).toNat = s1 at K
  generalize s.extract (atN s + c.p).toNat (atN s + c.p + givN c).toNat = s2 at K
  obtain ⟨m, sb, p, k, b, f, v, t, o⟩ := c
  simp only [crtV] at K ⊢
  have HK := Lib.hid K
  clear K h hc hz
  go_enter Try.func8, Try.ntmps8
  go_wp2_with fail
  ((with_reducible refine (HK.out _).mono ?_))
  rintro e w1 ⟨rfl, hB⟩
  have Z := Z0'.next hB
  have B : Below w.heap.size w w1 := (by repeat' (first | exact Below.refl _ _ | (refine Below.setCell ?_ (by first | (simp; done) | (simp; omega) | omega) _) | (refine Below.drew ?_) | (refine Below.drewN ?_ _) | (refine Below.alloc ?_ (by first | (simp; done) | (simp; omega) | omega) _) | (refine Below.trans ?_ (Below.mono hB (by first | (simp; done) | (simp; omega) | omega)))))
  unfold crt0 at Z
  (skip); have Zz := Z.lt; have Z0 := Z.c0; have Z1 := Z.c1; have Z2 := Z.c2; have Z3 := Z.c3; have Z4 := Z.c4; have Z5 := Z.c5; have Z6 := Z.c6; have Z7 := Z.c7; have Z8 := Z.c8; (try dsimp only at Z0 Z1 Z2 Z3 Z4 Z5 Z6 Z7 Z8)
  have Zf := Z.free
  have HB := Lib.hid B
  clear Z B hB Z0'
  go_wp2
  go_wp2
  refine bodyPost_ret (v := .tuple #[.agg #[.int .i64 m, .int .i64 sb, .int .i64 p, .int .i64 k, .bool b, .bool f, .bool v, .bool t, .bool o], .int .i64 0]) (by simp [results, Try.results8, go_sem, Zz, Z0, Z1, Z2, Z3, Z4, Z5, Z6, Z7, Z8]) rfl ⟨rfl, (by repeat' (first | (with_reducible exact HB.out) | (with_reducible refine Below.setCell ?_ (by first | omega | (dsimp only; omega) | (simp; omega) | (simp; done)) _) | (with_reducible refine Below.alloc ?_ (by first | omega | (simp; omega) | (simp; done)) _) | (with_reducible refine Below.drew ?_) | (with_reducible exact Below.refl _ _)))⟩
set_option maxHeartbeats 1000000 in
theorem least_ct (w : World) : Calls Try.prog 10 #[] w fun e w' => e = .returned (crtV ⟨0, 0, 16384, 8192, false, false, false, false, false⟩) ∧ Below w.heap.size w w' := by
  go_enter Try.func10, Try.ntmps10
  go_wp2
  exact bodyPost_ret (v := crtV ⟨0, 0, 16384, 8192, false, false, false, false, false⟩) (by simp [results, Try.results10, crtV, go_sem]) rfl ⟨rfl, (by repeat' (first | (with_reducible refine Below.setCell ?_ (by first | omega | (dsimp only; omega) | (simp; omega) | (simp; done)) _) | (with_reducible refine Below.alloc ?_ (by first | omega | (simp; omega) | (simp; done)) _) | (with_reducible refine Below.drew ?_) | (with_reducible exact Below.refl _ _)))⟩
end Go.Proofs.Ytaljenjnedijgaa
