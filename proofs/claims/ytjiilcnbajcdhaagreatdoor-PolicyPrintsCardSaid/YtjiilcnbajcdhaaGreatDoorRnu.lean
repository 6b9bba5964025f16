/-
  The document's own digits, and four of them: what they read as. Over this seat's translation; no condition.
-/
import Derived.Test.YtjiilcnbajcdhaaGreatDoorPpm
import Derived.Test.YtjiilcnbajcdhaaGreatDoorLbl
import Derived.Laws.BytesArg
namespace Go.Proofs.YtjiilcnbajcdhaaGreatDoor
open Go.RowKit

set_option maxHeartbeats 1000000 in
theorem rvalue_ct (c : UInt8) (w : World) :
    Calls Tryz.prog 89 #[.int .u8 (c.toNat : Int)] w fun e w' => e = .returned (.int .i64 (hexV c)) ∧ Below w.heap.size w w' := by
  have hc := c.toNat_lt
  unfold hexV
  obtain ⟨n, hn⟩ : ∃ n, c.toNat = n := ⟨_, rfl⟩
  rw [hn] at hc ⊢
  clear hn
  by_cases h1 : 48 ≤ n
  · by_cases h2 : n ≤ 57
    · rw [if_pos ⟨h1, h2⟩]
      go_enter Tryz.func89, Tryz.ntmps89
      go_wp2
      go_ret
      exact ⟨rfl, Below.refl _ _⟩
    · rw [if_neg (by omega)]
      by_cases h3 : 97 ≤ n
      · by_cases h4 : n ≤ 102
        · rw [if_pos ⟨h3, h4⟩]
          go_enter Tryz.func89, Tryz.ntmps89
          go_wp2
          go_ret
          exact ⟨rfl, Below.refl _ _⟩
        · rw [if_neg (by omega)]
          go_enter Tryz.func89, Tryz.ntmps89
          go_wp2
          go_ret
          exact ⟨rfl, Below.refl _ _⟩
      · rw [if_neg (by omega)]
        go_enter Tryz.func89, Tryz.ntmps89
        go_wp2
        go_ret
        exact ⟨rfl, Below.refl _ _⟩
  · rw [if_neg (by omega), if_neg (by omega)]
    go_enter Tryz.func89, Tryz.ntmps89
    go_wp2
    go_ret
    exact ⟨rfl, Below.refl _ _⟩
def dgB (i : Nat) : ByteArray := strOfNums [if i < 10 then 48 + (i : Int) else 87 + (i : Int)]
theorem dgB_list (i : Nat) (h : i < 16) : (dgB i).data.toList = [dg i] := by
  have hl : ∀ j : Fin 16, (dgB j.val).data.toList = [dg j.val] := by decide
  exact hl ⟨i, h⟩
theorem dgB_size (i : Nat) : (dgB i).size = 1 := by unfold dgB; rw [strOfNums_size]; rfl
set_option maxHeartbeats 1000000 in
theorem rdigit_ct (i : Nat) (h : i < 16) (w : World) :
    Calls Tryz.prog 77 #[.int .i64 (i : Int)] w fun e w' => e = .returned (.string (dgB i)) ∧ Below w.heap.size w w' := by
  have hcv : ∀ (W : World) (g : Nat) (x : Int), W.cell? ⟨g, 0, none⟩ = some (.int .u8 x) → (convert 61 9 (.slice (some ⟨g, 0, none⟩) 1 1)).run Tryz.prog W = .ok (.string (strOfNums [x])) W := fun W g x h =>
    run_convert_bytes_arg (P := Tryz.prog) W 61 5 Tryz.underlying61 Tryz.underlying5 g 0 1 1 [x] (by simp) (fun i hi => by
      obtain rfl : i = 0 := by omega
      simpa using h) 9 Tryz.underlying9
  unfold dgB
  by_cases h1 : i < 10
  · rw [if_pos h1]
    have kc := fun W => hcv W w.heap.size (48 + (i : Int))
    clear hcv
    go_enter Tryz.func77, Tryz.ntmps77
    go_wp2
    go_ret
    exact ⟨rfl, (by repeat' (first | exact Below.refl _ _ | (refine Below.setCell ?_ (by first | (simp; done) | (simp; omega) | omega) _) | (refine Below.drew ?_) | (refine Below.drewN ?_ _) | (refine Below.alloc ?_ (by first | (simp; done) | (simp; omega) | omega) _)))⟩
  · rw [if_neg h1]
    have kc := fun W => hcv W w.heap.size (87 + (i : Int))
    clear hcv
    go_enter Tryz.func77, Tryz.ntmps77
    go_wp2
    go_ret
    exact ⟨rfl, (by repeat' (first | exact Below.refl _ _ | (refine Below.setCell ?_ (by first | (simp; done) | (simp; omega) | omega) _) | (refine Below.drew ?_) | (refine Below.drewN ?_ _) | (refine Below.alloc ?_ (by first | (simp; done) | (simp; omega) | omega) _)))⟩
/-- A number's four digits. -/
def rfB (n : Nat) : ByteArray := dgB (n / 4096) ++ dgB (n / 256 % 16) ++ dgB (n / 16 % 16) ++ dgB (n % 16)
theorem rfB_list (n : Nat) (h : n < 65536) : (rfB n).data.toList = num4 n := by
  unfold rfB num4
  simp only [ByteArray.data_append, Array.toList_append, dgB_list _ (show n / 4096 < 16 by omega), dgB_list _ (show n / 256 % 16 < 16 by omega), dgB_list _ (show n / 16 % 16 < 16 by omega), dgB_list _ (show n % 16 < 16 by omega)]
  rfl
theorem rfB_size (n : Nat) : (rfB n).size = 4 := by unfold rfB; simp only [ByteArray.size_append, dgB_size]
set_option maxHeartbeats 2000000 in
theorem rfour_ct (n : Nat) (h : n < 65536) (w : World) :
    Calls Tryz.prog 56 #[.int .i64 (n : Int)] w fun e w' => e = .returned (.string (rfB n)) ∧ Below w.heap.size w w' := by
  have k3 := fun W => rdigit_ct (n / 4096) (by omega) W
  have k2 := fun W => rdigit_ct (n / 256 % 16) (by omega) W
  have k1 := fun W => rdigit_ct (n / 16 % 16) (by omega) W
  have k0 := fun W => rdigit_ct (n % 16) (by omega) W
  rw [show ((n / 4096 : Nat) : Int) = (n : Int) / 4096 by omega] at k3
  rw [show ((n / 256 % 16 : Nat) : Int) = (n : Int) / 256 % 16 by omega] at k2
  rw [show ((n / 16 % 16 : Nat) : Int) = (n : Int) / 16 % 16 by omega] at k1
  rw [show ((n % 16 : Nat) : Int) = (n : Int) % 16 by omega] at k0
  unfold rfB
  have s3 := dgB_size (n / 4096)
  have s2 := dgB_size (n / 256 % 16)
  have s1 := dgB_size (n / 16 % 16)
  generalize dgB (n / 4096) = x3 at *
  generalize dgB (n / 256 % 16) = x2 at *
  generalize dgB (n / 16 % 16) = x1 at *
  have s0 := dgB_size (n % 16)
  generalize dgB (n % 16) = x0 at *
  have K3 := Lib.hid k3
  have K2 := Lib.hid k2
  have K1 := Lib.hid k1
  have K0 := Lib.hid k0
  clear k3 k2 k1 k0
  go_enter Tryz.func56, Tryz.ntmps56
  go_wp2_with fail
  ((with_reducible refine (K3.out _).mono ?_))
  rintro e w1 ⟨rfl, B1⟩
  go_wp2_with fail
  ((with_reducible refine (K2.out _).mono ?_))
  rintro e w2 ⟨rfl, B2⟩
  go_wp2_with fail
  ((with_reducible refine (K1.out _).mono ?_))
  rintro e w3 ⟨rfl, B3⟩
  go_wp2_with fail
  ((with_reducible refine (K0.out _).mono ?_))
  rintro e w4 ⟨rfl, B4⟩
  go_wp2
  go_ret
  exact ⟨rfl, ((B1.next B2).next B3).next B4⟩
end Go.Proofs.YtjiilcnbajcdhaaGreatDoor
