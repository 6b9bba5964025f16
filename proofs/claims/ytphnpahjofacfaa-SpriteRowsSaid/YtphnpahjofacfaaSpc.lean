/-
  Package sprite's small functions: what is asked of arguments, a sprite's bytes, how high it is, how far below a line is. Over this seat's translation; numbers are of their kinds.
-/
import Derived.Test.YtphnpahjofacfaaSpm
import Derived.Test.YtphnpahjofacfaaMem
import Derived.Test.YtphnpahjofacfaaTgn
import Derived.Test.YtphnpahjofacfaaProg
import Derived.Outline
import Derived.LoopN
namespace Go.Proofs.Ytphnpahjofacfaa
open Go.RowKit Go.Sort
set_option linter.unusedSimpArgs false
set_option linter.unusedVariables false
set_option maxRecDepth 20000

/-- The bytes of a list stand from place off on in block b. -/
structure Ls (w : World) (b off : Nat) (l : List (Int × Bool)) : Prop where
  lt : b < w.heap.size
  at_ : ∀ k, k < l.length → w.cell? ⟨b, off + k * 2, none⟩ = some (.int .u8 (nth l k).1) ∧ w.cell? ⟨b, off + k * 2 + 1, none⟩ = some (.bool (nth l k).2)
theorem Ls.below {w w' : World} {b off : Nat} {l : List (Int × Bool)} (h : Ls w b off l) (hb : Below w.heap.size w w') : Ls w' b off l where
  lt := Nat.lt_of_lt_of_le h.lt hb.size
  at_ := fun k hk => by
    obtain ⟨h1, h2⟩ := h.at_ k hk
    rw [hb.cell (p := ⟨b, off + k * 2, none⟩) h.lt, hb.cell (p := ⟨b, off + k * 2 + 1, none⟩) h.lt]
    exact ⟨h1, h2⟩
theorem Ls.rd {w : World} {b off cap : Nat} {l : List (Int × Bool)} (h : Ls w b off l) {n : Nat} (hn : l.length = n) (hc : n ≤ cap) (hm : cap ≤ maxLen) : Rd w (.slice (some ⟨b, off, none⟩) n cap) l :=
  ⟨_, cap, by rw [hn], by omega, hm, .inr ⟨b, off, rfl, h.lt, h.at_⟩⟩
/-- Bounds of what is in a list of bytes. -/
def bytS (l : List (Int × Bool)) : Prop := ∀ k, k < l.length → 0 ≤ (nth l k).1 ∧ (nth l k).1 < 256
set_option maxHeartbeats 1000000 in
theorem isall_ct (a : Option Addr) (n cap : Nat) (w : World) : Calls Try.prog 22 #[.slice a n cap] w fun e w' => e = .returned (.bool (decide (n = 256))) ∧ Below w.heap.size w w' := by
  by_cases h : n = 256
  · subst h
    go_enter Try.func22, Try.ntmps22
    go_wp2
    go_ret
    exact ⟨rfl, Below.refl _ _⟩
  · have e : ((n : Int) == 256) = false := beq_eq_false_iff_ne.2 (by omega)
    rw [decide_eq_false h]
    go_enter Try.func22, Try.ntmps22
    go_wp2
    go_ret
    exact ⟨by simp only [go_sem]; first | rfl | (rw [← e]; rfl), Below.refl _ _⟩
def lineB (x : Int) : Bool := decide (0 ≤ x) && decide (x < 256)
def oneS (x : Int) : Bool := decide (0 ≤ x) && decide (x < 64)
set_option maxHeartbeats 1000000 in
theorem isline_ct (x : Int) (w : World) : Calls Try.prog 23 #[.int .i64 x] w fun e w' => e = .returned (.bool (lineB x)) ∧ Below w.heap.size w w' := by
  unfold lineB
  by_cases h : 0 ≤ x
  · by_cases h2 : x < 256
    · rw [decide_eq_true h, decide_eq_true h2]
      go_enter Try.func23, Try.ntmps23
      go_wp2
      go_ret
      exact ⟨rfl, Below.refl _ _⟩
    · rw [decide_eq_true h, decide_eq_false h2]
      go_enter Try.func23, Try.ntmps23
      go_wp2
      go_ret
      exact ⟨rfl, Below.refl _ _⟩
  · rw [decide_eq_false h]
    go_enter Try.func23, Try.ntmps23
    go_wp2
    go_ret
    exact ⟨rfl, Below.refl _ _⟩
set_option maxHeartbeats 1000000 in
theorem isone_ct (x : Int) (w : World) : Calls Try.prog 26 #[.int .i64 x] w fun e w' => e = .returned (.bool (oneS x)) ∧ Below w.heap.size w w' := by
  unfold oneS
  by_cases h : 0 ≤ x
  · by_cases h2 : x < 64
    · rw [decide_eq_true h, decide_eq_true h2]
      go_enter Try.func26, Try.ntmps26
      go_wp2
      go_ret
      exact ⟨rfl, Below.refl _ _⟩
    · rw [decide_eq_true h, decide_eq_false h2]
      go_enter Try.func26, Try.ntmps26
      go_wp2
      go_ret
      exact ⟨rfl, Below.refl _ _⟩
  · rw [decide_eq_false h]
    go_enter Try.func26, Try.ntmps26
    go_wp2
    go_ret
    exact ⟨rfl, Below.refl _ _⟩
set_option maxHeartbeats 1000000 in
theorem heightS_ct (t : Bool) (w : World) : Calls Try.prog 37 #[.bool t] w fun e w' => e = .returned (.int .i64 (highS t)) ∧ Below w.heap.size w w' := by
  cases t
  all_goals
    go_enter Try.func37, Try.ntmps37
    go_wp2
    go_ret
    exact ⟨rfl, Below.refl _ _⟩
set_option maxHeartbeats 1000000 in
theorem rlines15_ct (t : Bool) (w : World) : Calls Try.prog 31 #[.bool t] w fun e w' => e = .returned (.int .i64 (highS t)) ∧ Below w.heap.size w w' := by
  cases t
  all_goals
    go_enter Try.func31, Try.ntmps31
    go_wp2
    go_ret
    exact ⟨rfl, Below.refl _ _⟩
set_option maxHeartbeats 1000000 in
theorem bytesof_ct (b off cap i : Nat) (hi : i < 64) (hc : 256 ≤ cap) (hm : cap ≤ maxLen) (w : World) : Calls Try.prog 27 #[.slice (some ⟨b, off, none⟩) 256 cap, .int .i64 (i : Int)] w fun e w' => e = .returned (.slice (some ⟨b, off + i * 8, none⟩) 4 4) ∧ Below w.heap.size w w' := by
  unfold maxLen at hm
  go_enter Try.func27, Try.ntmps27
  go_wp2
  go_ret
  have e1 : i * 4 + 4 - i * 4 = 4 := by omega
  have e2 : off + i * 4 * 2 = off + i * 8 := by omega
  exact ⟨by show Ending.returned (.slice (some ⟨b, off + i * 4 * 2, none⟩) (i * 4 + 4 - i * 4) (i * 4 + 4 - i * 4)) = _; rw [e1, e2], Below.refl _ _⟩
set_option maxHeartbeats 1000000 in
theorem belowS_ct (b off : Nat) (y line : Int) (y0 : 0 ≤ y) (y1 : y < 256) (l0 : 0 ≤ line) (l1 : line < 256) (w : World) (hy : w.cell? ⟨b, off, none⟩ = some (.int .u8 y)) : Calls Try.prog 36 #[.slice (some ⟨b, off, none⟩) 4 4, .int .i64 line] w fun e w' => e = .returned (.int .i64 (line - y)) ∧ Below w.heap.size w w' := by
  go_enter Try.func36, Try.ntmps36
  go_wp2
  go_ret
  exact ⟨rfl, Below.refl _ _⟩
end Go.Proofs.Ytphnpahjofacfaa
