/-
  The document's smallest answers for opcodes: the nth of names of three letters; is a name one of some. Over this seat's translation; of texts shorter than a thousand octets.
-/
import Derived.Test.YtddeakcipmhobaaDoorMem
import Derived.Test.YtddeakcipmhobaaDoorLbl
namespace Go.Proofs.YtddeakcipmhobaaDoor
open Go.RowKit
set_option linter.unusedSimpArgs false
set_option linter.unusedVariables false
set_option maxRecDepth 20000

/-- Three letters of a text, from a place on; name number n of names of three letters and a space. -/
def cut3 (s : ByteArray) (i : Nat) : ByteArray := s.extract i (i + 3)
/-- Is a name one of those that stand at k and behind, four octets each? -/
def isInK (l s : ByteArray) : Nat → Bool
  | 0 => false
  | k + 1 => isInK l s k || (cut3 l (4 * k)).toList == s.toList
def isIn (l s : ByteArray) : Bool := isInK l s (l.size / 4)
theorem isInK_yes (l s : ByteArray) (k : Nat) (h : ((cut3 l (4 * k)).toList == s.toList) = true) : ∀ n, k < n → isInK l s n = true
  | 0, hk => absurd hk (by omega)
  | n + 1, hk => by
    rw [isInK]
    by_cases e : k = n
    · subst e; rw [h, Bool.or_true]
    · rw [isInK_yes l s k h n (by omega), Bool.true_or]
set_option maxHeartbeats 400000 in
theorem rnth_ct (s : ByteArray) (n : Nat) (w : World) (h : 4 * n + 3 ≤ s.size) (hs : s.size < 1000) :
    Calls Tryd.prog 29 #[.string s, .int .i64 n] w fun e w' => e = .returned (.string (cut3 s (4 * n))) ∧ Below w.heap.size w w' := by
  unfold cut3
  go_enter Tryd.func29, Tryd.ntmps29
  go_wp2
  go_ret
  exact ⟨rfl, Below.refl _ _⟩
set_option maxHeartbeats 1000000 in
theorem rone_ct (l s : ByteArray) (w : World) (hl : l.size < 1000) :
    Calls Tryd.prog 23 #[.string l, .string s] w fun e w' => e = .returned (.bool (isIn l s)) ∧ Below w.heap.size w w' := by
  go_enter Tryd.func23, Tryd.ntmps23
  go_wp2
  go_loopw [4, 5] (fun _ i wr => ∃ k : Nat, k ≤ l.size / 4 ∧ i = .int .i64 (4 * k) ∧ Hid (isInK l s k = false) ∧ w = wr) (fun _ i _ => l.size - (intOf i).toNat)
  case atStart => exact ⟨0, Nat.zero_le _, rfl, rfl, rfl⟩
  case round =>
    obtain ⟨k, hk, rfl, he, rfl⟩ := hrel
    by_cases hlt : k < l.size / 4
    · have h4 : 4 * k + 4 ≤ l.size := by omega
      cases hq : ((l.extract (4 * k) (4 * k + 3)).toList == s.toList)
      · have hn : Hid (isInK l s (k + 1) = false) := by
          show isInK l s (k + 1) = false
          rw [isInK, he.out]
          exact hq
        clear he
        go_wp2
        go_roundw
        case rel => exact ⟨k + 1, by omega, by go_num, hn, trivial⟩
        case measure => simp [intOf]; omega
      · have hy := Lib.hid (isInK_yes l s k hq (l.size / 4) (by omega))
        clear he
        go_wp2
        go_ret
        exact ⟨by rw [show isIn l s = true from hy.out]; rfl, Below.refl _ _⟩
    · obtain rfl : k = l.size / 4 := by omega
      have hd : decide ((4 * (l.size / 4 : Nat) : Int) + 4 ≤ l.size) = false := decide_eq_false (by omega)
      go_wp2
      go_ret
      exact ⟨by rw [show isIn l s = false from he.out]; rfl, Below.refl _ _⟩
end Go.Proofs.YtddeakcipmhobaaDoor
