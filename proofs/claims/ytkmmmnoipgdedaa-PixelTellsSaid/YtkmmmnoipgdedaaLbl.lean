/-
  Contracts of package label's functions and of the document's plain answers for them, over this seat's translation. No condition but that a byte's value is from 0 to 255 where it is said.
-/
import Derived.Test.YtkmmmnoipgdedaaProg
import Derived.WalkKit
import Derived.WalkSpells
import Derived.WalkLawsBesides
import Derived.Lib.Hide
import Derived.Deep.RegionHeld3
import Derived.StillTailTactics
import Derived.Deep.QuietTactic
import Derived.BigQuiet
import Derived.Deep.DeepCutAuto
import Derived.Laws.BitsAllLaws
namespace Go.Proofs.Ytkmmmnoipgdedaa
open Go.RowKit

def nth (l : List (Int × Bool)) (k : Nat) : Int × Bool := l.getD k (0, false)
def anyS (l : List (Int × Bool)) : Bool := l.any (·.2)
theorem anyS_take (l : List (Int × Bool)) (k : Nat) (h : k < l.length) : anyS (l.take (k + 1)) = (anyS (l.take k) || (nth l k).2) := by
  unfold anyS nth
  rw [List.take_succ_eq_append_getElem h, List.any_append]
  simp [List.getD_eq_getElem?_getD, h]
theorem anyS_stop (l : List (Int × Bool)) (k : Nat) (h : k < l.length) (hk : (nth l k).2 = true) : anyS l = true := by
  unfold anyS
  rw [List.any_eq_true]
  refine ⟨l[k], List.getElem_mem h, ?_⟩
  unfold nth at hk
  simpa [List.getD_eq_getElem?_getD, h] using hk
theorem anyS_end (l : List (Int × Bool)) (k : Nat) (h : ¬ k < l.length) (hk : anyS (l.take k) = false) : anyS l = false := by
  rw [List.take_of_length_le (by omega)] at hk; exact hk
theorem anyS_one (a : Int) (s : Bool) : anyS [(a, s)] = s := by simp [anyS]
theorem anyS_two (a b : Int) (s t : Bool) : anyS [(a, s), (b, t)] = (s || t) := by simp [anyS]
theorem anyS_three (a b c : Int) (s t u : Bool) : anyS [(a, s), (b, t), (c, u)] = (s || (t || u)) := by simp [anyS]

/-- A slice of bytes that reads as a list. -/
def Rd (w : World) (v : Value) (l : List (Int × Bool)) : Prop :=
  ∃ a cap, v = .slice a l.length cap ∧ l.length ≤ cap ∧ cap ≤ maxLen ∧ (l = [] ∨ ∃ b off, a = some ⟨b, off, none⟩ ∧ b < w.heap.size ∧
    ∀ k, k < l.length → w.cell? ⟨b, off + k * 2, none⟩ = some (.int .u8 (nth l k).1) ∧ w.cell? ⟨b, off + k * 2 + 1, none⟩ = some (.bool (nth l k).2))

theorem rd1 {w : World} {b : Nat} (hb : b = w.heap.size) (a : Int) (s : Bool) (T : Nat) :
    Rd (w.alloc (.cells #[.int .u8 a, .bool s] T)) (.slice (some ⟨b, 0, none⟩) 1 1) [(a, s)] := by
  subst hb
  refine ⟨_, _, rfl, by simp, by simp [maxLen], .inr ⟨_, _, rfl, by simp, fun k hk => ?_⟩⟩
  match k, hk with
  | 0, _ => simp [nth, go_sem]
theorem rd2 {w : World} {b : Nat} (hb : b = w.heap.size) (a c : Int) (s t : Bool) (T : Nat) :
    Rd (w.alloc (.cells #[.int .u8 a, .bool s, .int .u8 c, .bool t] T)) (.slice (some ⟨b, 0, none⟩) 2 2) [(a, s), (c, t)] := by
  subst hb
  refine ⟨_, _, rfl, by simp, by simp [maxLen], .inr ⟨_, _, rfl, by simp, fun k hk => ?_⟩⟩
  match k, hk with
  | 0, _ => simp [nth, go_sem]
  | 1, _ => simp [nth, go_sem]
theorem rd3 {w : World} {b : Nat} (hb : b = w.heap.size) (a c d : Int) (s t u : Bool) (T : Nat) :
    Rd (w.alloc (.cells #[.int .u8 a, .bool s, .int .u8 c, .bool t, .int .u8 d, .bool u] T)) (.slice (some ⟨b, 0, none⟩) 3 3) [(a, s), (c, t), (d, u)] := by
  subst hb
  refine ⟨_, _, rfl, by simp, by simp [maxLen], .inr ⟨_, _, rfl, by simp, fun k hk => ?_⟩⟩
  match k, hk with
  | 0, _ => simp [nth, go_sem]
  | 1, _ => simp [nth, go_sem]
  | 2, _ => simp [nth, go_sem]
theorem rd0 (w : World) : Rd w (.slice none 0 0) [] := ⟨_, _, rfl, by simp, by simp [maxLen], .inl rfl⟩

/-- What reads as a list does so in each later world that has not written below. -/
theorem Rd.below {w w' : World} {v : Value} {l : List (Int × Bool)} (h : Rd w v l) (hb : Below w.heap.size w w') : Rd w' v l := by
  obtain ⟨a, cap, hv, hl, hm, h⟩ := h
  refine ⟨a, cap, hv, hl, hm, ?_⟩
  rcases h with h | ⟨b, off, ha, hlt, hc⟩
  · exact .inl h
  · refine .inr ⟨b, off, ha, Nat.lt_of_lt_of_le hlt hb.size, fun k hk => ?_⟩
    obtain ⟨h1, h2⟩ := hc k hk
    rw [hb.cell (p := ⟨b, off + k * 2, none⟩) hlt, hb.cell (p := ⟨b, off + k * 2 + 1, none⟩) hlt]
    exact ⟨h1, h2⟩

theorem bcell {W w1 : World} (hb : Below W.heap.size W w1) : (∀ b o, b < W.heap.size → w1.cell? ⟨b, o, none⟩ = W.cell? ⟨b, o, none⟩) ∧ (∀ b o, b < W.heap.size → w1.frozen? ⟨b, o, none⟩ = W.frozen? ⟨b, o, none⟩) :=
  ⟨fun b o h => hb.cell (p := ⟨b, o, none⟩) h, fun b o h => hb.frozen (p := ⟨b, o, none⟩) h⟩
theorem _root_.Go.RowKit.Below.next {w a b : World} (h : Below w.heap.size w a) (k : Below a.heap.size a b) : Below w.heap.size w b := h.trans (k.mono h.size)
theorem Below.drewN {B : Nat} {a w : World} (h : Below B a w) (n : Nat) : Below B a (w.drewN n) := below_drewN h n

set_option maxHeartbeats 400000 in
theorem any_ct (sv : Value) (l : List (Int × Bool)) (w : World) (hr : Rd w sv l) :
    Calls Try.prog 24 #[sv] w fun e w' => e = .returned (.bool (anyS l)) ∧ Below w.heap.size w w' := by
  obtain ⟨a, cap, rfl, hcap, hn, hr⟩ := hr
  unfold maxLen at hn
  rcases hr with rfl | ⟨b, off, rfl, hb, hc⟩
  · go_enter Try.func24, Try.ntmps24
    go_wp2
    go_loopw [4, 7] (fun _ i wr => i = .int .i64 0 ∧ wr = w) (fun _ i _ => 0)
    case atStart => exact ⟨rfl, rfl⟩
    case round =>
      obtain ⟨rfl, rfl⟩ := hrel
      go_wp2
      go_ret
      exact ⟨rfl, Below.refl _ _⟩
  have Hc := Lib.hid hc
  clear hc
  go_enter Try.func24, Try.ntmps24
  go_wp2
  go_loopw [4, 7] (fun _ i wr => ∃ k : Nat, k ≤ l.length ∧ i = .int .i64 k ∧ Hid (anyS (l.take k) = false) ∧ Below w.heap.size w wr) (fun _ i _ => l.length - (intOf i).toNat)
  case atStart => exact ⟨0, Nat.zero_le _, rfl, by simp [Hid, anyS], Below.refl _ _⟩
  case round =>
    obtain ⟨k, hk, rfl, he, hB⟩ := hrel
    by_cases hlt : k < l.length
    · obtain ⟨h1, h2⟩ := Hc.out k hlt
      rw [← hB.cell hb] at h1 h2
      have hs := anyS_take l k hlt
      have hstop := anyS_stop l k hlt
      rw [he.out] at hs
      generalize (nth l k).2 = s at *
      generalize (nth l k).1 = v at *
      clear he
      cases s
      · have Hs : Hid (anyS (l.take (k + 1)) = false) := by rw [Bool.false_or] at hs; exact hs
        have hB' := (hB.alloc hB.size (.cells #[.int .u8 v, .bool false] 28))
        clear hs hstop Hc
        go_wp2
        go_roundw
        case rel => exact ⟨k + 1, by omega, by go_num, Hs, hB'⟩
        case measure => simp [intOf]; omega
      · have Hs : Hid (anyS l = true) := hstop rfl
        have hB' := (hB.alloc hB.size (.cells #[.int .u8 v, .bool true] 28))
        clear hs hstop Hc
        go_wp2
        go_ret
        exact ⟨by rw [Hs.out]; rfl, hB'⟩
    · have Hs : Hid (anyS l = false) := anyS_end l k hlt he.out
      clear Hc he
      go_wp2
      go_ret
      exact ⟨by rw [Hs.out]; rfl, hB⟩

def alikeB (a : Int) (s : Bool) (b : Int) (t : Bool) : Bool := if s || t then s && t else a == b
end Go.Proofs.Ytkmmmnoipgdedaa
