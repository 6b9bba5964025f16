/-
  Package header's Check; second, trainer, size. Contracts over this seat's translation; octets are from 0 to 255.
-/
import Derived.Test.YtodmhmkbiafahaaHcx
namespace Go.Proofs.Ytodmhmkbiafahaa
open Go.RowKit

set_option maxHeartbeats 2000000 in
theorem hcheck_ct (c : Crt) (w : World) : Calls Try.prog 22 #[crtV c] w fun e w' => e = .returned (.int .i64 (chkN c)) ∧ Below w.heap.size w w' := by
  have K1 := fun wr => hknown_ct c.m wr
  have K2 := fun wr => hsized_ct c wr
  obtain ⟨m, s, p, k, b, f, v, t, o⟩ := c
  unfold chkN chkV
  simp only [crtV] at K1 K2 ⊢
  cases hm : mapOk m
  · rw [hm] at K1
    have H1 := Lib.hid K1
    clear K1 K2 hm
    go_enter Try.func22, Try.ntmps22
    go_wp2_with fail
    ((with_reducible refine (H1.out _).mono ?_))
    rintro e w1 ⟨rfl, hB⟩
    go_wp2
    go_ret
    exact ⟨rfl, (by repeat' (first | exact Below.refl _ _ | (refine Below.setCell ?_ (by first | (simp; done) | (simp; omega) | omega) _) | (refine Below.drew ?_) | (refine Below.drewN ?_ _) | (refine Below.alloc ?_ (by first | (simp; done) | (simp; omega) | omega) _) | (refine Below.trans ?_ (Below.mono hB (by first | (simp; done) | (simp; omega) | omega)))))⟩
  · cases hz : sizOk p k o
    · rw [hm] at K1
      rw [hz] at K2
      have H1 := Lib.hid K1
      have H2 := Lib.hid K2
      clear K1 K2 hm hz
      go_enter Try.func22, Try.ntmps22
      go_wp2_with fail
      ((with_reducible refine (H1.out _).mono ?_))
      rintro e w1 ⟨rfl, hB⟩
      have hz1 := hB.size
      simp at hz1
      obtain ⟨hc, hf⟩ := bcell hB
      go_wp2_with fail
      ((with_reducible refine (H2.out _).mono ?_))
      rintro e w2 ⟨rfl, hB2⟩
      go_wp2
      go_ret
      exact ⟨rfl, (by repeat' (first | exact Below.refl _ _ | (refine Below.setCell ?_ (by first | (simp; done) | (simp; omega) | omega) _) | (refine Below.drew ?_) | (refine Below.drewN ?_ _) | (refine Below.alloc ?_ (by first | (simp; done) | (simp; omega) | omega) _) | (refine Below.trans ?_ (Below.mono hB2 (by first | (simp; done) | (simp; omega) | omega))) | (refine Below.trans ?_ (Below.mono hB (by first | (simp; done) | (simp; omega) | omega)))))⟩
    · rw [hm] at K1
      rw [hz] at K2
      have H1 := Lib.hid K1
      have H2 := Lib.hid K2
      clear K1 K2 hm hz
      cases t
      all_goals
        go_enter Try.func22, Try.ntmps22
        go_wp2_with fail
        ((with_reducible refine (H1.out _).mono ?_))
        rintro e w1 ⟨rfl, hB⟩
        have B : Below w.heap.size w w1 := (by repeat' (first | exact Below.refl _ _ | (refine Below.setCell ?_ (by first | (simp; done) | (simp; omega) | omega) _) | (refine Below.drew ?_) | (refine Below.drewN ?_ _) | (refine Below.alloc ?_ (by first | (simp; done) | (simp; omega) | omega) _) | (refine Below.trans ?_ (Below.mono hB (by first | (simp; done) | (simp; omega) | omega)))))
        have X := (CX.new w ⟨m, s, p, k, b, f, v, _, o⟩).next hB
        clear hB
        (skip); have Xz := X.lt; have X0 := X.c0; have X1 := X.c1; have X2 := X.c2; have X3 := X.c3; have X4 := X.c4; have X5 := X.c5; have X6 := X.c6; have X7 := X.c7; have X8 := X.c8; (try dsimp only at X0 X1 X2 X3 X4 X5 X6 X7 X8)
        go_wp2_with fail
        ((with_reducible refine (H2.out _).mono ?_))
        rintro e w2 ⟨rfl, hB⟩
        replace B := B.next hB
        replace X := X.next hB; clear Xz X0 X1 X2 X3 X4 X5 X6 X7 X8; have Xz := X.lt; have X0 := X.c0; have X1 := X.c1; have X2 := X.c2; have X3 := X.c3; have X4 := X.c4; have X5 := X.c5; have X6 := X.c6; have X7 := X.c7; have X8 := X.c8; (try dsimp only at X0 X1 X2 X3 X4 X5 X6 X7 X8)
        clear hB
        go_wp2
        all_goals
          go_ret
          refine ⟨ret_i ?_, B⟩
          try simp only [if_true]
          unfold subN
          split <;> simp_all <;> omega

end Go.Proofs.Ytodmhmkbiafahaa
