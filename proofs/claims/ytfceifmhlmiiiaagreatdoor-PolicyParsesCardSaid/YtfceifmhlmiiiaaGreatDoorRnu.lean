/-
  The document's own digits, and four of them: what they read as. Over this seat's translation; no condition.
-/
import Derived.Test.YtfceifmhlmiiiaaGreatDoorPpm
import Derived.Test.YtfceifmhlmiiiaaGreatDoorLbl
import Derived.Laws.BytesArg
namespace Go.Proofs.YtfceifmhlmiiiaaGreatDoor
open Go.RowKit

set_option maxHeartbeats 1000000 in
theorem rvalue_ct (c : UInt8) (w : World) :
    Calls Tryz.prog 64 #[.int .u8 (c.toNat : Int)] w fun e w' => e = .returned (.int .i64 (hexV c)) ∧ Below w.heap.size w w' := by
  have hc := c.toNat_lt
  unfold hexV
  obtain ⟨n, hn⟩ : ∃ n, c.toNat = n := ⟨_, rfl⟩
  rw [hn] at hc ⊢
  clear hn
  by_cases h1 : 48 ≤ n
  · by_cases h2 : n ≤ 57
    · rw [if_pos ⟨h1, h2⟩]
      go_enter Tryz.func64, Tryz.ntmps64
      go_wp2
      go_ret
      exact ⟨rfl, Below.refl _ _⟩
    · rw [if_neg (by omega)]
      by_cases h3 : 97 ≤ n
      · by_cases h4 : n ≤ 102
        · rw [if_pos ⟨h3, h4⟩]
          go_enter Tryz.func64, Tryz.ntmps64
          go_wp2
          go_ret
          exact ⟨rfl, Below.refl _ _⟩
        · rw [if_neg (by omega)]
          go_enter Tryz.func64, Tryz.ntmps64
          go_wp2
          go_ret
          exact ⟨rfl, Below.refl _ _⟩
      · rw [if_neg (by omega)]
        go_enter Tryz.func64, Tryz.ntmps64
        go_wp2
        go_ret
        exact ⟨rfl, Below.refl _ _⟩
  · rw [if_neg (by omega), if_neg (by omega)]
    go_enter Tryz.func64, Tryz.ntmps64
    go_wp2
    go_ret
    exact ⟨rfl, Below.refl _ _⟩
def dgB (i : Nat) : ByteArray := strOfNums [if i < 10 then 48 + (i : Int) else 87 + (i : Int)]
theorem dgB_list (i : Nat) (h : i < 16) : (dgB i).data.toList = [dg i] := by
  have hl : ∀ j : Fin 16, (dgB j.val).data.toList = [dg j.val] := by decide
  exact hl ⟨i, h⟩
theorem dgB_size (i : Nat) : (dgB i).size = 1 := by unfold dgB; rw [strOfNums_size]; rfl
/-- A number's four digits. -/
def rfB (n : Nat) : ByteArray := dgB (n / 4096) ++ dgB (n / 256 % 16) ++ dgB (n / 16 % 16) ++ dgB (n % 16)
theorem rfB_list (n : Nat) (h : n < 65536) : (rfB n).data.toList = num4 n := by
  unfold rfB num4
  simp only [ByteArray.data_append, Array.toList_append, dgB_list _ (show n / 4096 < 16 by omega), dgB_list _ (show n / 256 % 16 < 16 by omega), dgB_list _ (show n / 16 % 16 < 16 by omega), dgB_list _ (show n % 16 < 16 by omega)]
  rfl
theorem rfB_size (n : Nat) : (rfB n).size = 4 := by unfold rfB; simp only [ByteArray.size_append, dgB_size]
end Go.Proofs.YtfceifmhlmiiiaaGreatDoor
