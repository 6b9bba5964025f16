/-
  Package vram's Kind, Palette and Screen, what its variable holds, and the document's; layer 13's awake. Over this seat's translation; addresses are from 0 to 65535.
-/
import Derived.Test.YtbonamhinnhlnaaDoorMem
import Derived.Test.YtbonamhinnhlnaaDoorQgl
import Derived.Test.YtbonamhinnhlnaaDoorAlp
import Derived.Test.YtbonamhinnhlnaaDoorHbt
import Derived.Test.YtbonamhinnhlnaaDoorProg
import Derived.Outline
namespace Go.Proofs.YtbonamhinnhlnaaDoor
open Go.RowKit
set_option linter.unusedSimpArgs false
set_option linter.unusedVariables false
set_option maxRecDepth 20000

/-- The table of screens' numbers, as its text lays it. -/
def noZ : List Int := [0, 0, 1, 1, 0, 1, 0, 1, 0, 0, 0, 0, 1, 1, 1, 1, 0, 1, 2, 3]
structure GlobV (w : World) : Prop where
  num : ∀ (i : Nat) (c : Int), noZ[i]? = some c → w.cell? ⟨0, i, none⟩ = some (.int .i64 c)
  lt : 0 < w.heap.size
theorem GlobV.below {w w' : World} (h : GlobV w) (hb : Below w.heap.size w w') : GlobV w' where
  num := fun i c hi => by rw [hb.cell h.lt]; exact h.num i c hi
  lt := Nat.lt_of_lt_of_le h.lt hb.size
theorem GlobV.mem {w w' : World} {l : List (Nat × Array Value)} (h : GlobV w) (H : Mem w.heap.size [] w w' l) : GlobV w' := h.below H.toBelow
/-- An address's kind, the place of a palette's, and of a screen's. -/
def kdV (a : Int) : Int := if a % 16384 < 8192 then 0 else if a % 16384 < 16128 then 1 else 2
def plV (a : Int) : Int := if 16 ≤ a % 32 ∧ a % 32 % 4 = 0 then a % 32 - 16 else a % 32
def plR (a : Int) : Int × Int := if kdV a = 2 then (plV a, 0) else (0, 1)
def noV (a s : Int) : Int := if s = 0 then a / 2048 % 2 else if s = 1 then a / 1024 % 2 else if s = 2 then 0 else if s = 3 then 1 else a / 1024 % 4
def scV (a s : Int) : Int := noV a s * 1024 + a % 1024
def scR (a s : Int) : Int × Int := if kdV a = 1 ∧ 0 ≤ s ∧ s < 5 then (scV a s, 0) else (0, 1)
theorem kd_le (a : Int) : 0 ≤ kdV a ∧ kdV a ≤ 2 := by unfold kdV; split <;> (try split) <;> omega
theorem noV_le (a s : Int) : 0 ≤ noV a s ∧ noV a s < 4 ∧ (s ≠ 4 → 0 ≤ s → s < 5 → noV a s < 2) := by unfold noV; repeat' split <;> omega
theorem no_at (a s : Int) (s0 : 0 ≤ s) (s1 : s < 5) : noZ[s.toNat * 4 + (a / 1024 % 4).toNat]? = some (noV a s) := by
  obtain ⟨q, hq⟩ : ∃ q, a / 1024 % 4 = q := ⟨_, rfl⟩
  have e1 : a / 2048 % 2 = q / 2 := by omega
  have e2 : a / 1024 % 2 = q % 2 := by omega
  unfold noV
  rw [e1, e2, hq]
  have hs : s = 0 ∨ s = 1 ∨ s = 2 ∨ s = 3 ∨ s = 4 := by omega
  have hc : q = 0 ∨ q = 1 ∨ q = 2 ∨ q = 3 := by omega
  rcases hs with rfl | rfl | rfl | rfl | rfl <;> rcases hc with rfl | rfl | rfl | rfl <;> rfl
set_option maxHeartbeats 1000000 in
theorem vkind_ct (a : Int) (w : World) (h0 : 0 ≤ a) (h1 : a < 65536) : Calls Tryd.prog 10 #[.int .u16 a] w fun e w' => e = .returned (.int .i64 (kdV a)) ∧ Below w.heap.size w w' := by
  unfold kdV
  obtain ⟨m, hm⟩ : ∃ m, a % 16384 = m := ⟨_, rfl⟩
  by_cases h : m < 8192
  · rw [hm, if_pos h]
    go_enter Tryd.func10, Tryd.ntmps10
    go_wp2
    go_ret
    exact ⟨rfl, Below.refl _ _⟩
  · by_cases h2 : m < 16128
    · rw [hm, if_neg h, if_pos h2]
      go_enter Tryd.func10, Tryd.ntmps10
      go_wp2
      go_ret
      exact ⟨rfl, Below.refl _ _⟩
    · rw [hm, if_neg h, if_neg h2]
      go_enter Tryd.func10, Tryd.ntmps10
      go_wp2
      go_ret
      exact ⟨rfl, Below.refl _ _⟩
set_option maxHeartbeats 2000000 in
theorem vpal_ct (a : Int) (w : World) (h0 : 0 ≤ a) (h1 : a < 65536) : Calls Tryd.prog 8 #[.int .u16 a] w fun e w' => e = .returned (.tuple #[.int .i64 (plR a).1, .int .i64 (plR a).2]) ∧ Below w.heap.size w w' := by
  have QK := Lib.hid (fun wr => vkind_ct a wr h0 h1)
  have H := Mem.start w
  unfold plR plV
  generalize kdV a = d at *
  obtain ⟨m, hm⟩ : ∃ m, a % 32 = m := ⟨_, rfl⟩
  have m0 : 0 ≤ m ∧ m < 32 := by omega
  rw [hm]
  by_cases hd : d = 2
  · subst hd
    rw [if_pos rfl]
    dsimp only
    by_cases h16 : 16 ≤ m
    · by_cases h4 : m % 4 = 0
      · rw [if_pos ⟨h16, h4⟩]
        go_enter Tryd.func8, Tryd.ntmps8
        go_wp2_with (first | (go_at_call 10; (with_reducible refine (QK.out _).mono ?_); rintro e w2 ⟨rfl, hB⟩; replace H := H.next hB; clear hB) | fail)
        go_ret2
        exact ⟨rfl, H.toBelow⟩
      · rw [if_neg (fun h => h4 h.2)]
        go_enter Tryd.func8, Tryd.ntmps8
        go_wp2_with (first | (go_at_call 10; (with_reducible refine (QK.out _).mono ?_); rintro e w2 ⟨rfl, hB⟩; replace H := H.next hB; clear hB) | fail)
        go_ret2
        exact ⟨rfl, H.toBelow⟩
    · rw [if_neg (fun h => h16 h.1)]
      go_enter Tryd.func8, Tryd.ntmps8
      go_wp2_with (first | (go_at_call 10; (with_reducible refine (QK.out _).mono ?_); rintro e w2 ⟨rfl, hB⟩; replace H := H.next hB; clear hB) | fail)
      go_ret2
      exact ⟨rfl, H.toBelow⟩
  · rw [if_neg hd]
    have e1 : (d != 2) = true := by simpa using hd
    go_enter Tryd.func8, Tryd.ntmps8
    go_wp2_with (first | (go_at_call 10; (with_reducible refine (QK.out _).mono ?_); rintro e w2 ⟨rfl, hB⟩; replace H := H.next hB; clear hB) | fail)
    go_ret2
    exact ⟨rfl, H.toBelow⟩
set_option maxHeartbeats 2000000 in
theorem vscr_ct (a s : Int) (w : World) (G : GlobV w) (h0 : 0 ≤ a) (h1 : a < 65536) : Calls Tryd.prog 6 #[.int .u16 a, .int .i64 s] w fun e w' => e = .returned (.tuple #[.int .i64 (scR a s).1, .int .i64 (scR a s).2]) ∧ Below w.heap.size w w' := by
  have QK := Lib.hid (fun wr => vkind_ct a wr h0 h1)
  have H := Mem.start w
  have g0 := G.lt
  unfold scR
  by_cases hd : kdV a = 1
  · by_cases hs0 : s < 0
    · rw [if_neg (by omega)]
      rw [hd] at QK
      go_enter Tryd.func6, Tryd.ntmps6
      go_wp2_with (first | (go_at_call 10; (with_reducible refine (QK.out _).mono ?_); rintro e w2 ⟨rfl, hB⟩; replace H := H.next hB; clear hB) | fail)
      go_ret2
      exact ⟨rfl, H.toBelow⟩
    · by_cases hs1 : s < 5
      · rw [if_pos ⟨hd, by omega, hs1⟩]
        rw [hd] at QK
        have hcy := G.num _ _ (no_at a s (by omega) hs1)
        have hn := noV_le a s
        unfold scV
        generalize noV a s = n at *
        obtain ⟨S, rfl⟩ := Int.eq_ofNat_of_zero_le (show 0 ≤ s by omega)
        obtain ⟨q, hq⟩ : ∃ q, a / 1024 % 4 = q := ⟨_, rfl⟩
        rw [hq] at hcy
        obtain ⟨Q, rfl⟩ := Int.eq_ofNat_of_zero_le (show 0 ≤ q by omega)
        simp only [Int.toNat_natCast] at hcy
        have q3 : Q < 4 := by omega
        have e9 : (IntKind.u16.wrap (a.tdiv 1024)).tmod 4 = (Q : Int) := by
          have hb : (2 : Int) ^ IntKind.u16.bits = 65536 := by decide
          rw [Int.tdiv_eq_ediv_of_nonneg h0]
          have : IntKind.u16.wrap (a / 1024) = a / 1024 := by
            simp only [IntKind.wrap, IntKind.signed, hb]
            simp
            omega
          rw [this, Int.tmod_eq_emod_of_nonneg (by omega)]
          exact hq
        have s4 : S < 5 := by omega
        go_enter Tryd.func6, Tryd.ntmps6
        go_wp2_with (first | (go_at_call 10; (with_reducible refine (QK.out _).mono ?_); rintro e w2 ⟨rfl, hB⟩; replace H := H.next hB; replace hcy := (hB.cell g0).trans hcy; clear hB) | fail)
        go_ret2
        exact ⟨rfl, H.toBelow⟩
      · rw [if_neg (by omega)]
        rw [hd] at QK
        go_enter Tryd.func6, Tryd.ntmps6
        go_wp2_with (first | (go_at_call 10; (with_reducible refine (QK.out _).mono ?_); rintro e w2 ⟨rfl, hB⟩; replace H := H.next hB; clear hB) | fail)
        go_ret2
        exact ⟨rfl, H.toBelow⟩
  · rw [if_neg (fun h => hd h.1)]
    generalize kdV a = d at *
    have e1 : (d != 1) = true := by simpa using hd
    go_enter Tryd.func6, Tryd.ntmps6
    go_wp2_with (first | (go_at_call 10; (with_reducible refine (QK.out _).mono ?_); rintro e w2 ⟨rfl, hB⟩; replace H := H.next hB; clear hB) | fail)
    go_ret2
    exact ⟨rfl, H.toBelow⟩
end Go.Proofs.YtbonamhinnhlnaaDoor
