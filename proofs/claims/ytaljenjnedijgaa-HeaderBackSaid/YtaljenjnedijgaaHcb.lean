/-
  Package header's Check; second, trainer, size. Contracts over this seat's translation; octets are from 0 to 255.
-/
import Derived.Test.YtaljenjnedijgaaHcx
namespace Go.Proofs.Ytaljenjnedijgaa
open Go.RowKit

set_option maxHeartbeats 2000000 in
theorem hcheck_ct (c : Crt) (w : World) : Calls Try.prog 12 #[crtV c] w fun e w' => e = .returned (.int .i64 (chkN c)) ∧ Below w.heap.size w w' := by
  have K1 := fun wr => hknown_ct c.m wr
  have K2 := fun wr => hsized_ct c wr
  obtain ⟨m, s, p, k, b, f, v, t, o⟩ := c
  unfold chkN chkV
  simp only [crtV] at K1 K2 ⊢
  cases hm : mapOk m
  · rw [hm] at K1
    have H1 := Lib.hid K1
    clear K1 K2 hm
    go_enter Try.func12, Try.ntmps12
    go_wp2_with fail
    ((with_reducible refine (H1.out _).mono ?_))
    rintro e w1 ⟨rfl, hB⟩
    go_wp2
    go_ret
    exact ⟨rfl, (by repeat' (first | exact Below.refl _ _ | (refine Below.setCell ?_ (by first | (simp; done) | (simp; omega) | omega) _) | (refine Below.drew ?_) | (refine Below.drewN ?_ _) | (refine Below.alloc ?_ (by first | (simp; done) | (simp; omega) | omega) _) | (refine Below.trans ?_ (Below.mono hB (by first | (simp; done) | (simp; omega) | omega)))))⟩
  · cases hz : sizOk p k o
    · rw [hm] at K1
      rw [hz] at K2
      have H1 := Lib.hid K1
      have H2 := Lib.hid K2
      clear K1 K2 hm hz
      go_enter Try.func12, Try.ntmps12
      go_wp2_with fail
      ((with_reducible refine (H1.out _).mono ?_))
      rintro e w1 ⟨rfl, hB⟩
      have hz1 := hB.size
      simp at hz1
      obtain ⟨hc, hf⟩ := bcell hB
      go_wp2_with fail
      ((with_reducible refine (H2.out _).mono ?_))
      rintro e w2 ⟨rfl, hB2⟩
      go_wp2
      go_ret
      exact ⟨rfl, (by repeat' (first | exact Below.refl _ _ | (refine Below.setCell ?_ (by first | (simp; done) | (simp; omega) | omega) _) | (refine Below.drew ?_) | (refine Below.drewN ?_ _) | (refine Below.alloc ?_ (by first | (simp; done) | (simp; omega) | omega) _) | (refine Below.trans ?_ (Below.mono hB2 (by first | (simp; done) | (simp; omega) | omega))) | (refine Below.trans ?_ (Below.mono hB (by first | (simp; done) | (simp; omega) | omega)))))⟩
    · rw [hm] at K1
      rw [hz] at K2
      have H1 := Lib.hid K1
      have H2 := Lib.hid K2
      clear K1 K2 hm hz
      cases t
      all_goals
        go_enter Try.func12, Try.ntmps12
        go_wp2_with fail
        ((with_reducible refine (H1.out _).mono ?_))
        rintro e w1 ⟨rfl, hB⟩
        have B : Below w.heap.size w w1 := (by repeat' (first | exact Below.refl _ _ | (refine Below.setCell ?_ (by first | (simp; done) | (simp; omega) | omega) _) | (refine Below.drew ?_) | (refine Below.drewN ?_ _) | (refine Below.alloc ?_ (by first | (simp; done) | (simp; omega) | omega) _) | (refine Below.trans ?_ (Below.mono hB (by first | (simp; done) | (simp; omega) | omega)))))
        have X := (CX.new w ⟨m, s, p, k, b, f, v, _, o⟩).next hB
        clear hB
        (skip); have Xz := X.lt; have X0 := X.c0; have X1 := X.c1; have X2 := X.c2; have X3 := X.c3; have X4 := X.c4; have X5 := X.c5; have X6 := X.c6; have X7 := X.c7; have X8 := X.c8; (try dsimp only at X0 X1 X2 X3 X4 X5 X6 X7 X8)
        go_wp2_with fail
        ((with_reducible refine (H2.out _).mono ?_))
        rintro e w2 ⟨rfl, hB⟩
        replace B := B.next hB
        replace X := X.next hB; clear Xz X0 X1 X2 X3 X4 X5 X6 X7 X8; have Xz := X.lt; have X0 := X.c0; have X1 := X.c1; have X2 := X.c2; have X3 := X.c3; have X4 := X.c4; have X5 := X.c5; have X6 := X.c6; have X7 := X.c7; have X8 := X.c8; (try dsimp only at X0 X1 X2 X3 X4 X5 X6 X7 X8)
        clear hB
        go_wp2
        all_goals
          go_ret
          refine ⟨ret_i ?_, B⟩
          try simp only [if_true]
          unfold subN
          split <;> simp_all <;> omega

set_option maxHeartbeats 1000000 in
theorem hsecond_ct (x : Nat → Int) (w : World) (h0 : 0 ≤ x 7) (h1 : x 7 < 256) : Calls Try.prog 20 #[hdV x] w fun e w' => e = .returned (.bool (secK (x 7))) ∧ Below w.heap.size w w' := by
  have E := hand12 (x 7) h0 h1
  unfold hdV
  go_enter Try.func20, Try.ntmps20
  go_wp2
  go_ret
  exact ⟨ret_b (by unfold secK; rw [Bool.eq_iff_iff]; simp; omega), (by repeat' (first | exact Below.refl _ _ | (refine Below.setCell ?_ (by first | (simp; done) | (simp; omega) | omega) _) | (refine Below.drew ?_) | (refine Below.drewN ?_ _) | (refine Below.alloc ?_ (by first | (simp; done) | (simp; omega) | omega) _)))⟩
set_option maxHeartbeats 1000000 in
theorem htrainer_ct (x : Nat → Int) (w : World) (h0 : 0 ≤ x 6) (h1 : x 6 < 256) : Calls Try.prog 17 #[hdV x] w fun e w' => e = .returned (.int .i64 (if x 6 / 4 % 2 = 1 then 512 else 0)) ∧ Below w.heap.size w w' := by
  have E := hand4 (x 6) h0 h1
  by_cases hq : x 6 / 4 % 2 = 1
  · have key : bits .and .u8 (x 6) 4 = 4 := by rw [E]; omega
    rw [if_pos hq]
    clear E hq
    unfold hdV
    go_enter Try.func17, Try.ntmps17
    go_wp2
    go_ret
    exact ⟨rfl, (by repeat' (first | exact Below.refl _ _ | (refine Below.setCell ?_ (by first | (simp; done) | (simp; omega) | omega) _) | (refine Below.drew ?_) | (refine Below.drewN ?_ _) | (refine Below.alloc ?_ (by first | (simp; done) | (simp; omega) | omega) _)))⟩
  · have key : bits .and .u8 (x 6) 4 = 0 := by rw [E]; omega
    rw [if_neg hq]
    clear E hq
    unfold hdV
    go_enter Try.func17, Try.ntmps17
    go_wp2
    go_ret
    exact ⟨rfl, (by repeat' (first | exact Below.refl _ _ | (refine Below.setCell ?_ (by first | (simp; done) | (simp; omega) | omega) _) | (refine Below.drew ?_) | (refine Below.drewN ?_ _) | (refine Below.alloc ?_ (by first | (simp; done) | (simp; omega) | omega) _)))⟩
set_option maxHeartbeats 1000000 in
theorem hsize_ct (a h u : Int) (w : World) (a0 : 0 ≤ a) (a1 : a < 256) (g0 : 0 ≤ h) (g1 : h < 16) (u0 : 0 ≤ u) (u1 : u ≤ 16384) : Calls Try.prog 21 #[.int .u8 a, .int .u8 h, .int .i64 u] w fun e w' => e = .returned (.int .i64 (amt a h u)) ∧ w' = w := by
  by_cases hq : h = 15
  · subst hq
    have E := hand3 a a0 a1
    have hw : ∀ n : Nat, n ≤ 20 → wrap64 ((2 * (a % 4) + 1) * 2 ^ n) = (2 * (a % 4) + 1) * ((2 ^ n : Nat) : Int) := fun n hn => by
      have hp : (2 : Nat) ^ n ≤ 2 ^ 20 := Nat.pow_le_pow_right (by decide) hn
      have e2 : ((2 : Int) ^ n) = ((2 ^ n : Nat) : Int) := by norm_cast
      rw [← IntWalk.i64_left, e2]
      obtain ⟨q, hq⟩ : ∃ q : Nat, 2 ^ n = q := ⟨_, rfl⟩
      rw [hq] at hp ⊢
      have hq2 : (q : Int) ≤ 1048576 := by omega
      have hb : 0 ≤ (2 * (a % 4) + 1) * (q : Int) ∧ (2 * (a % 4) + 1) * (q : Int) ≤ 7 * 1048576 := by
        refine ⟨Int.mul_nonneg (by omega) (by omega), ?_⟩
        exact Int.mul_le_mul (by omega) (by omega) (by omega) (by omega)
      exact IntWalk.i64_in _ (by omega)
    by_cases hn : a / 4 ≤ 20
    · have e1 : amt a 15 u = (2 * (a % 4) + 1) * ((2 ^ (a / 4).toNat : Nat) : Int) := by unfold amt; rw [if_pos rfl, Int.min_eq_left hn]
      have hw' := hw (a / 4).toNat (by omega)
      rw [e1]
      clear e1 hw
      go_enter Try.func21, Try.ntmps21
      go_wp2
      go_ret
      exact ⟨ret_i hw', rfl⟩
    · have e1 : amt a 15 u = (2 * (a % 4) + 1) * ((2 ^ 20 : Nat) : Int) := by unfold amt; rw [if_pos rfl, Int.min_eq_right (by omega)]; rfl
      have hw' := hw 20 (by omega)
      rw [e1]
      clear e1 hw
      go_enter Try.func21, Try.ntmps21
      go_wp2
      go_ret
      exact ⟨ret_i (by first | exact hw' | (simp) | omega), rfl⟩
  · have hq' : (h == 15) = false := by simpa using hq
    have e1 : amt a h u = (h * 256 + a) * u := by unfold amt; rw [if_neg hq]
    have hor : bits .or .i64 (h * 256) a = h * 256 + a := hor_i64z 8 256 _ _ (by omega) (by omega) (by decide) (by omega) (by omega) (by omega)
    have hb : 0 ≤ (h * 256 + a) * u ∧ (h * 256 + a) * u ≤ 4096 * 16384 := by
      refine ⟨Int.mul_nonneg (by omega) (by omega), ?_⟩
      exact Int.mul_le_mul (by omega) (by omega) (by omega) (by omega)
    rw [e1]
    clear e1
    go_enter Try.func21, Try.ntmps21
    go_wp2
    go_ret
    exact ⟨rfl, rfl⟩
end Go.Proofs.Ytaljenjnedijgaa
