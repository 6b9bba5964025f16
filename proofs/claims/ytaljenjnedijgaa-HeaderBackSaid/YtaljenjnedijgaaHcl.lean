/-
  Package header's headOf in two contracts; Split, where there is an error. Over this seat's translation; a text is no longer than a slice may be.
-/
import Derived.Test.YtaljenjnedijgaaHci
import Derived.Test.YtaljenjnedijgaaHcj
import Derived.Test.YtaljenjnedijgaaHck
import Derived.Test.YtaljenjnedijgaaHct
namespace Go.Proofs.Ytaljenjnedijgaa
open Go.RowKit

theorem hhead_n (s : ByteArray) (w : World) (h : magB s = false) : Calls Try.prog 15 #[.string s] w fun e w' => e = .returned (.tuple #[hdV zx, .bool false]) ∧ Below w.heap.size w w' := by
  by_cases hs : 16 ≤ s.size
  · exact hhead_no s w hs (mag_false h hs)
  · exact hhead_short s w (by omega)
theorem hhead_y (s : ByteArray) (w : World) (h : magB s = true) : Calls Try.prog 15 #[.string s] w fun e w' => e = .returned (.tuple #[hdV (hx s), .bool true]) ∧ Below w.heap.size w w' := by
  cases h7 : secK (oct s 7)
  · exact hhead_yes0 s w h h7
  · exact hhead_yes1 s w h h7
theorem hx_in (s : ByteArray) (i : Nat) : 0 ≤ hx s i ∧ hx s i < 256 := by
  unfold hx
  split
  · exact ⟨y8_lo s, y8_hi s⟩
  · split
    · exact ⟨y9_lo s, y9_hi s⟩
    · exact ⟨oct_lo s i, oct_hi s i⟩
theorem hcart_h (s : ByteArray) (w : World) : Calls Try.prog 16 #[hdV (hx s)] w fun e w' => e = .returned (crtV (hdrC s)) ∧ Below w.heap.size w w' := hcart_ct (hx s) w (hx_in s)
theorem htrainer_h (s : ByteArray) (w : World) : Calls Try.prog 17 #[hdV (hx s)] w fun e w' => e = .returned (.int .i64 (trnN s)) ∧ Below w.heap.size w w' := htrainer_ct (hx s) w (hx_in s 6).1 (hx_in s 6).2
theorem trn_in (s : ByteArray) : 0 ≤ trnN s ∧ trnN s ≤ 512 := by unfold trnN; split <;> omega
theorem giv_in {c : Crt} (h : chkN c = 0) : 0 ≤ givN c ∧ givN c ≤ 262144 := by
  obtain ⟨_, _, hk, _⟩ := chkN_zero.1 h
  rw [chrOk_iff] at hk
  unfold givN
  split <;> omega
theorem prg_in {c : Crt} (h : chkN c = 0) : 16384 ≤ c.p ∧ c.p ≤ 524288 := by
  obtain ⟨_, hp, _⟩ := chkN_zero.1 h
  rw [prgOk_iff] at hp
  omega
set_option maxRecDepth 100000 in
set_option maxHeartbeats 4000000 in
theorem hsplit_mag (s : ByteArray) (w : World) (h : magB s = false) : Calls Try.prog 9 #[.string s] w fun e w' => e = .returned (.tuple #[crtV crt0, .string ⟨#[]⟩, .string ⟨#[]⟩, .int .i64 4]) ∧ Below w.heap.size w w' := by
  have K0 := fun wr => hhead_n s wr h
  unfold hdV zx at K0
  have H0 := Lib.hid K0
  clear K0 h
  have Z0' := CX.new w crt0
  go_enter Try.func9, Try.ntmps9
  go_wp2_with fail
  ((with_reducible refine (H0.out _).mono ?_))
  rintro e w1 ⟨rfl, hB⟩
  have Z := Z0'.next hB
  have B : Below w.heap.size w w1 := (by repeat' (first | exact Below.refl _ _ | (refine Below.setCell ?_ (by first | (simp; done) | (simp; omega) | omega) _) | (refine Below.drew ?_) | (refine Below.drewN ?_ _) | (refine Below.alloc ?_ (by first | (simp; done) | (simp; omega) | omega) _) | (refine Below.trans ?_ (Below.mono hB (by first | (simp; done) | (simp; omega) | omega)))))
  unfold crt0 at Z
  (skip); have Zz := Z.lt; have Z0 := Z.c0; have Z1 := Z.c1; have Z2 := Z.c2; have Z3 := Z.c3; have Z4 := Z.c4; have Z5 := Z.c5; have Z6 := Z.c6; have Z7 := Z.c7; have Z8 := Z.c8; (try dsimp only at Z0 Z1 Z2 Z3 Z4 Z5 Z6 Z7 Z8)
  have Zf := Z.free
  clear hB Z Z0'
  go_wp2
  refine bodyPost_ret (v := .tuple #[crtV crt0, .string ⟨#[]⟩, .string ⟨#[]⟩, .int .i64 4]) (by simp [results, Try.results9, crtV, crt0, go_sem, Zz, Z0, Z1, Z2, Z3, Z4, Z5, Z6, Z7, Z8]) rfl ⟨rfl, ?_⟩
  exact (by repeat' (first | (with_reducible exact B) | (with_reducible refine Below.setCell ?_ (by first | omega | (dsimp only; omega) | (simp; omega) | (simp; done)) _) | (with_reducible refine Below.alloc ?_ (by first | omega | (simp; omega) | (simp; done)) _) | (with_reducible refine Below.drew ?_) | (with_reducible exact Below.refl _ _)))
end Go.Proofs.Ytaljenjnedijgaa
