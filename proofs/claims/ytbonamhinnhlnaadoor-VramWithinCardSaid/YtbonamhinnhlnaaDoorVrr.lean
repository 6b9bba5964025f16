/-
  The document's Kind, Palette and Screen; layer 13's awake. Over this seat's translation; addresses are from 0 to 65535.
-/
import Derived.Test.YtbonamhinnhlnaaDoorVrm
namespace Go.Proofs.YtbonamhinnhlnaaDoor
open Go.RowKit
set_option linter.unusedSimpArgs false
set_option linter.unusedVariables false
set_option maxRecDepth 20000

set_option maxHeartbeats 1000000 in
theorem rvkind_ct (a : Int) (w : World) (h0 : 0 ≤ a) (h1 : a < 65536) : Calls Tryd.prog 11 #[.int .u16 a] w fun e w' => e = .returned (.int .i64 (kdV a)) ∧ Below w.heap.size w w' := by
  unfold kdV
  obtain ⟨m, hm⟩ : ∃ m, a % 16384 = m := ⟨_, rfl⟩
  by_cases h : m < 8192
  · rw [hm, if_pos h]
    go_enter Tryd.func11, Tryd.ntmps11
    go_wp2
    go_ret
    exact ⟨rfl, Below.refl _ _⟩
  · by_cases h2 : m < 16128
    · rw [hm, if_neg h, if_pos h2]
      go_enter Tryd.func11, Tryd.ntmps11
      go_wp2
      go_ret
      exact ⟨rfl, Below.refl _ _⟩
    · rw [hm, if_neg h, if_neg h2]
      go_enter Tryd.func11, Tryd.ntmps11
      go_wp2
      go_ret
      exact ⟨rfl, Below.refl _ _⟩
theorem pl_by (a m : Int) (hm : a % 32 = m) (m0 : 0 ≤ m ∧ m < 32) : plV a = if m = 16 ∨ m = 20 ∨ m = 24 ∨ m = 28 then m - 16 else m := by
  unfold plV
  rw [hm]
  by_cases h : 16 ≤ m ∧ m % 4 = 0
  · rw [if_pos h, if_pos (by omega)]
  · rw [if_neg h, if_neg (by omega)]
set_option maxHeartbeats 2000000 in
theorem rvpal_ct (a : Int) (w : World) (h0 : 0 ≤ a) (h1 : a < 65536) : Calls Tryd.prog 9 #[.int .u16 a] w fun e w' => e = .returned (.tuple #[.int .i64 (plR a).1, .int .i64 (plR a).2]) ∧ Below w.heap.size w w' := by
  have QK := Lib.hid (fun wr => rvkind_ct a wr h0 h1)
  have H := Mem.start w
  obtain ⟨m, hm⟩ : ∃ m, a % 32 = m := ⟨_, rfl⟩
  have m0 : 0 ≤ m ∧ m < 32 := by omega
  unfold plR
  rw [pl_by a m hm m0]
  by_cases hd : kdV a = 2
  · rw [if_pos hd]
    rw [hd] at QK
    dsimp only
    by_cases h : m = 16 ∨ m = 20 ∨ m = 24 ∨ m = 28
    · rw [if_pos h]
      rcases h with rfl | rfl | rfl | rfl
      all_goals
        go_enter Tryd.func9, Tryd.ntmps9
        go_wp2_with (first | (go_at_call 11; (with_reducible refine (QK.out _).mono ?_); rintro e w2 ⟨rfl, hB⟩; replace H := H.next hB; clear hB) | fail)
        go_ret2
        exact ⟨rfl, H.toBelow⟩
    · rw [if_neg h]
      have e1 : (m == 16) = false := by simp; omega
      have e2 : (m == 20) = false := by simp; omega
      have e3 : (m == 24) = false := by simp; omega
      have e4 : (m == 28) = false := by simp; omega
      clear h
      go_enter Tryd.func9, Tryd.ntmps9
      go_wp2_with (first | (go_at_call 11; (with_reducible refine (QK.out _).mono ?_); rintro e w2 ⟨rfl, hB⟩; replace H := H.next hB; clear hB) | fail)
      go_ret2
      exact ⟨by first | rfl | (rw [← hm]; rfl), H.toBelow⟩
  · rw [if_neg hd]
    generalize kdV a = d at *
    have e1 : (d != 2) = true := by simpa using hd
    go_enter Tryd.func9, Tryd.ntmps9
    go_wp2_with (first | (go_at_call 11; (with_reducible refine (QK.out _).mono ?_); rintro e w2 ⟨rfl, hB⟩; replace H := H.next hB; clear hB) | fail)
    go_ret2
    exact ⟨rfl, H.toBelow⟩
set_option maxHeartbeats 2000000 in
theorem rvscr_ct (a s : Int) (w : World) (h0 : 0 ≤ a) (h1 : a < 65536) : Calls Tryd.prog 7 #[.int .u16 a, .int .i64 s] w fun e w' => e = .returned (.tuple #[.int .i64 (scR a s).1, .int .i64 (scR a s).2]) ∧ Below w.heap.size w w' := by
  have QK := Lib.hid (fun wr => rvkind_ct a wr h0 h1)
  have H := Mem.start w
  unfold scR
  by_cases hd : kdV a = 1
  · rw [hd] at QK
    by_cases hs0 : s < 0
    · rw [if_neg (by omega)]
      go_enter Tryd.func7, Tryd.ntmps7
      go_wp2_with (first | (go_at_call 11; (with_reducible refine (QK.out _).mono ?_); rintro e w2 ⟨rfl, hB⟩; replace H := H.next hB; clear hB) | fail)
      go_ret2
      exact ⟨rfl, H.toBelow⟩
    · by_cases hs1 : s < 5
      · rw [if_pos ⟨hd, by omega, hs1⟩]
        obtain ⟨m, hm⟩ : ∃ m, a % 4096 = m := ⟨_, rfl⟩
        have e1 : a / 2048 % 2 = m / 2048 := by omega
        have e2 : a / 1024 % 2 = m / 1024 % 2 := by omega
        have e3 : a / 1024 % 4 = 2 * (m / 2048) + m / 1024 % 2 := by omega
        have e4 : a % 1024 = m % 1024 := by omega
        unfold scV noV
        rw [e1, e2, e3, e4]
        have m0 : 0 ≤ m ∧ m < 4096 := by omega
        clear e1 e2 e3 e4
        have hs : s = 0 ∨ s = 1 ∨ s = 2 ∨ s = 3 ∨ s = 4 := by omega
        rcases hs with rfl | rfl | rfl | rfl | rfl
        all_goals
          go_enter Tryd.func7, Tryd.ntmps7
          go_wp2_with (first | (go_at_call 11; (with_reducible refine (QK.out _).mono ?_); rintro e w2 ⟨rfl, hB⟩; replace H := H.next hB; clear hB) | fail)
          go_ret2
          exact ⟨by simp <;> omega, H.toBelow⟩
      · rw [if_neg (by omega)]
        go_enter Tryd.func7, Tryd.ntmps7
        go_wp2_with (first | (go_at_call 11; (with_reducible refine (QK.out _).mono ?_); rintro e w2 ⟨rfl, hB⟩; replace H := H.next hB; clear hB) | fail)
        go_ret2
        exact ⟨rfl, H.toBelow⟩
  · rw [if_neg (fun h => hd h.1)]
    generalize kdV a = d at *
    have e1 : (d != 1) = true := by simpa using hd
    go_enter Tryd.func7, Tryd.ntmps7
    go_wp2_with (first | (go_at_call 11; (with_reducible refine (QK.out _).mono ?_); rintro e w2 ⟨rfl, hB⟩; replace H := H.next hB; clear hB) | fail)
    go_ret2
    exact ⟨rfl, H.toBelow⟩
set_option maxHeartbeats 2000000 in
theorem awake13_ct (w : World) (G : GlobV w) : Calls Tryd.prog 12 #[] w fun e w' => e = .returned (.bool true) ∧ Below w.heap.size w w' := by
  have K1 := fun wr (g : GlobV wr) => vscr_ct 10240 0 wr g (by decide) (by decide)
  rw [show scR 10240 0 = (1024, 0) by decide +kernel] at K1
  have K2 := fun wr (g : GlobV wr) => vscr_ct 10240 1 wr g (by decide) (by decide)
  rw [show scR 10240 1 = (0, 0) by decide +kernel] at K2
  have K3 := fun wr => vpal_ct 16144 wr (by decide) (by decide)
  rw [show plR 16144 = (0, 0) by decide +kernel] at K3
  have K4 := fun wr => vkind_ct 16127 wr (by decide) (by decide)
  rw [show kdV 16127 = 1 by decide +kernel] at K4
  have Q1 := Lib.hid K1
  have Q2 := Lib.hid K2
  have Q3 := Lib.hid K3
  have Q4 := Lib.hid K4
  clear K1 K2 K3 K4
  have GG := Lib.hid G
  clear G
  have H := Mem.start w
  go_enter Tryd.func12, Tryd.ntmps12
  go_wp2_with (first
    | (go_at_call 6; first
        | ((with_reducible refine (Q1.out _ (GG.out.mem H)).mono ?_); rintro e w2 ⟨rfl, hB⟩; replace H := H.next hB; clear hB)
        | ((with_reducible refine (Q2.out _ (GG.out.mem H)).mono ?_); rintro e w2 ⟨rfl, hB⟩; replace H := H.next hB; clear hB))
    | (go_at_call 8; (with_reducible refine (Q3.out _).mono ?_); rintro e w2 ⟨rfl, hB⟩; replace H := H.next hB; clear hB)
    | (go_at_call 10; (with_reducible refine (Q4.out _).mono ?_); rintro e w2 ⟨rfl, hB⟩; replace H := H.next hB; clear hB)
    | fail)
  go_ret
  exact ⟨rfl, H.toBelow⟩
end Go.Proofs.YtbonamhinnhlnaaDoor
