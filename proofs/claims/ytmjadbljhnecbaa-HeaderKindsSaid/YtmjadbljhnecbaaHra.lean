/-
  The document's bit, amount and Check. Contracts over this seat's translation; octets are from 0 to 255.
-/
import Derived.Test.YtmjadbljhnecbaaHcx
namespace Go.Proofs.Ytmjadbljhnecbaa
open Go.RowKit

set_option maxHeartbeats 1000000 in
theorem hrbit_ct (x : Int) (i : Nat) (w : World) (h0 : 0 ≤ x) (h1 : x < 256) (hi : i ≤ 7) : Calls Try.prog 20 #[.int .u8 x, .int .i64 (i : Int)] w fun e w' => e = .returned (.bool (decide (x / 2 ^ i % 2 = 1))) ∧ Below w.heap.size w w' := by
  match i, hi with
  | 0, _ | 1, _ | 2, _ | 3, _ | 4, _ | 5, _ | 6, _ | 7, _ =>
    go_enter Try.func20, Try.ntmps20
    go_wp2
    go_ret
    exact ⟨ret_b (by rw [Bool.eq_iff_iff]; simp), (by repeat' (first | exact Below.refl _ _ | (refine Below.setCell ?_ (by first | (simp; done) | (simp; omega) | omega) _) | (refine Below.drew ?_) | (refine Below.drewN ?_ _) | (refine Below.alloc ?_ (by first | (simp; done) | (simp; omega) | omega) _)))⟩
  | n + 8, h => exact absurd h (by omega)
theorem dbl_bound (i : Nat) : ∀ n : Int, 0 ≤ n → n ≤ 1000000 → 0 ≤ dbl i n ∧ dbl i n ≤ 1000000 := by
  induction i with
  | zero => intro n h0 h1; exact ⟨h0, h1⟩
  | succ i ih => intro n h0 h1; exact ih _ (by omega) (by omega)
theorem dbl_snoc (i : Nat) : ∀ n : Int, dbl (i + 1) n = min (2 * dbl i n) 1000000 := by
  induction i with
  | zero => intro n; rfl
  | succ i ih => intro n; exact ih (min (2 * n) 1000000)
set_option maxHeartbeats 1000000 in
theorem ramount_ct (a h u : Int) (w : World) (a0 : 0 ≤ a) (a1 : a < 256) (g0 : 0 ≤ h) (g1 : h < 16) (u0 : 0 ≤ u) (u1 : u ≤ 16384) : Calls Try.prog 21 #[.int .i64 a, .int .i64 h, .int .i64 u] w fun e w' => e = .returned (.int .i64 (amtR a h u)) ∧ Below w.heap.size w w' := by
  by_cases hq : h = 15
  · subst hq
    have e1 : amtR a 15 u = dbl (a / 4).toNat (a % 4 * 2 + 1) := by unfold amtR; rw [if_pos rfl]
    rw [e1]
    clear e1
    obtain ⟨N, hN⟩ : ∃ N : Nat, (a / 4).toNat = N := ⟨_, rfl⟩
    have hN' : a / 4 = (N : Int) := by omega
    obtain ⟨s, hs⟩ : ∃ s : Int, a % 4 * 2 + 1 = s := ⟨_, rfl⟩
    have hs0 : 0 ≤ s ∧ s ≤ 7 := by omega
    rw [hN, hs]
    have HS := Lib.hid hs
    clear hN hs
    go_enter Try.func21, Try.ntmps21
    go_wp2
    go_loopw [7, 8] (fun n i wr => ∃ k : Nat, k ≤ N ∧ i = .int .i64 k ∧ n = .int .i64 (dbl k s) ∧ wr = w) (fun _ i _ => N - (intOf i).toNat)
    case atStart => exact ⟨0, Nat.zero_le _, rfl, by rw [← HS.out]; rfl, rfl⟩
    case round =>
      obtain ⟨k, hk, rfl, rfl, rfl⟩ := hrel
      have hd := dbl_bound k s hs0.1 (by omega)
      have hsn := Lib.hid (dbl_snoc k s)
      generalize hdk : dbl k s = d at *
      by_cases hlt : k < N
      · by_cases hm : 2 * d ≤ 1000000
        · have hmin : min (2 * d) 1000000 = 2 * d := Int.min_eq_left hm
          rw [hmin] at hsn
          clear hmin
          go_wp2
          go_roundw
          case rel => exact ⟨k + 1, by omega, by go_num, by rw [hsn.out]; first | done | rfl | (rw [if_neg (by omega)]; done) | (rw [if_pos (by omega)]; done), by first | rfl | trivial⟩
          case measure => simp [intOf]; omega
        · have hmin : min (2 * d) 1000000 = 1000000 := Int.min_eq_right (by omega)
          rw [hmin] at hsn
          clear hmin
          go_wp2
          go_roundw
          case rel => exact ⟨k + 1, by omega, by go_num, by rw [hsn.out]; first | done | rfl | (rw [if_neg (by omega)]; done) | (rw [if_pos (by omega)]; done), by first | rfl | trivial⟩
          case measure => simp [intOf]; omega
      · obtain rfl : k = N := by omega
        have Hd := Lib.hid hdk
        clear hdk hsn
        go_wp2
        go_ret
        exact ⟨ret_i Hd.out.symm, Below.refl _ _⟩
  · have e1 : amtR a h u = (256 * h + a) * u := by unfold amtR; rw [if_neg hq]
    have hb : 0 ≤ (256 * h + a) * u ∧ (256 * h + a) * u ≤ 4096 * 16384 := by
      refine ⟨Int.mul_nonneg (by omega) (by omega), ?_⟩
      exact Int.mul_le_mul (by omega) (by omega) (by omega) (by omega)
    have hq' : (h == 15) = false := by simpa using hq
    rw [e1]
    clear e1
    go_enter Try.func21, Try.ntmps21
    go_wp2
    go_ret
    exact ⟨rfl, Below.refl _ _⟩
end Go.Proofs.Ytmjadbljhnecbaa
