/-
  Contracts of package cells' Alike (by slices.EqualFunc) and In (by slices.ContainsFunc). Over this seat's translation; no condition.
-/
import Derived.Test.YtdafilfnmdfacaaCla
import Derived.Shelf.Abstract
namespace Go.Proofs.Ytdafilfnmdfacaa
open Go.RowKit

/-! ### in one of them -/
set_option maxHeartbeats 1000000 in
/-- The closure that asks one range. -/
theorem inone_ct (a b x : Int) (B : Nat) (w : World) (hB : B < w.heap.size) (hc : w.cell? ⟨B, 0, none⟩ = some (.int .i64 x)) :
    Calls Try.prog 35 #[.agg #[.int .i64 a, .int .i64 b], .pointer (some ⟨B, 0, none⟩)] w fun e w' => e = .returned (.bool (inR (a, b) x)) ∧ Below w.heap.size w w' := by
  have hne : B ≠ w.heap.size := by omega
  by_cases h1 : a ≤ x
  · by_cases h2 : x ≤ b
    · rw [(inR_iff (a, b) x).2 ⟨h1, h2⟩]
      go_enter Try.func35, Try.ntmps35
      go_wp2
      go_ret
      exact ⟨rfl, (by repeat' (first | exact Below.refl _ _ | (refine Below.setCell ?_ (by first | (simp; done) | (simp; omega) | omega) _) | (refine Below.drew ?_) | (refine Below.drewN ?_ _) | (refine Below.alloc ?_ (by first | (simp; done) | (simp; omega) | omega) _)))⟩
    · have hv : inR (a, b) x = false := by simp [inR, h2]
      rw [hv]; clear hv
      go_enter Try.func35, Try.ntmps35
      go_wp2
      go_ret
      exact ⟨rfl, (by repeat' (first | exact Below.refl _ _ | (refine Below.setCell ?_ (by first | (simp; done) | (simp; omega) | omega) _) | (refine Below.drew ?_) | (refine Below.drewN ?_ _) | (refine Below.alloc ?_ (by first | (simp; done) | (simp; omega) | omega) _)))⟩
  · have hv : inR (a, b) x = false := by simp [inR, h1]
    rw [hv]; clear hv
    go_enter Try.func35, Try.ntmps35
    go_wp2
    go_ret
    exact ⟨rfl, (by repeat' (first | exact Below.refl _ _ | (refine Below.setCell ?_ (by first | (simp; done) | (simp; omega) | omega) _) | (refine Below.drew ?_) | (refine Below.drewN ?_ _) | (refine Below.alloc ?_ (by first | (simp; done) | (simp; omega) | omega) _)))⟩
/-- Where the first one is, or -1. -/
def IdxP (l : List (Int × Int)) (x : Int) (w : World) (e : Ending) (w' : World) : Prop := ∃ i : Int, e = .returned (.int .i64 i) ∧ decide (0 ≤ i) = inB l x ∧ Below w.heap.size w w'
theorem inB_skip (l : List (Int × Int)) (x a b : Int) (k : Nat) (h : k < l.length) (hn : nthR l k = (a, b)) (he : inB l x = inB (l.drop k) x) : inB l x = (inR (a, b) x || inB (l.drop (k + 1)) x) := by
  rw [he, drop_cons' l k (0, 0) h, show l.getD k (0, 0) = (a, b) from hn]
  rfl
set_option maxHeartbeats 2000000 in
theorem indexf_ct (sv : Value) (l : List (Int × Int)) (x : Int) (B : Nat) (w : World) (hr : Rg w sv l) (hB0 : B < w.heap.size) (hcx : w.cell? ⟨B, 0, none⟩ = some (.int .i64 x)) :
    Calls Try.prog 37 #[sv, .func (.func 35) #[] #[.pointer (some ⟨B, 0, none⟩)]] w (IdxP l x w) := by
  obtain ⟨sa, cap, rfl, hcap, hn, hr⟩ := hr
  unfold maxLen at hn
  have Hr := Lib.hid hr
  clear hr
  have Hx := Lib.hid hcx
  clear hcx
  go_enter Try.func37, Try.ntmps37
  go_wp2
  go_loopw [5, 8] (fun _ i wr => ∃ (k : Nat), k ≤ l.length ∧ i = .int .i64 k ∧ Hid (inB l x = inB (l.drop k) x) ∧ Below w.heap.size w wr) (fun _ i _ => l.length - (intOf i).toNat)
  case atStart => exact ⟨0, Nat.zero_le _, rfl, by simp [Hid], Below.refl _ _⟩
  case round =>
    obtain ⟨k, hk, rfl, he, hB⟩ := hrel
    by_cases hlt : k < l.length
    · rcases Hr.out with rfl | ⟨b0, off, rfl, hb, hc⟩
      · simp at hlt
      obtain ⟨h1, h2⟩ := hc k hlt
      clear hc
      rw [← hB.cell hb] at h1 h2
      obtain ⟨a, b, hab⟩ : ∃ a b, nthR l k = (a, b) := ⟨_, _, rfl⟩
      have hs := inB_skip l x a b k hlt hab he.out
      rw [hab] at h1 h2
      dsimp only at h1 h2
      have hf := inone_ct a b x B wr (Nat.lt_of_lt_of_le hB0 hB.size) (by rw [hB.cell (p := ⟨B, 0, none⟩) hB0]; exact Hx.out)
      clear hab he Hr Hx
      cases ha : inR (a, b) x
      · rw [ha] at hf hs
        rw [Bool.false_or] at hs
        have Hs := Lib.hid hs
        clear hs ha
        go_wp2_with (go_at_call 35; refine hf.mono ?_; rintro e w1 ⟨rfl, hB1⟩)
        go_roundw
        case rel => exact ⟨k + 1, by omega, by go_num, Hs, hB.next hB1⟩
        case measure => simp [intOf]; omega
      · rw [ha] at hf hs
        rw [Bool.true_or] at hs
        have Hs := Lib.hid hs
        clear hs ha
        go_wp2_with (go_at_call 35; refine hf.mono ?_; rintro e w1 ⟨rfl, hB1⟩)
        go_ret
        exact ⟨k, rfl, by rw [Hs.out]; simp, hB.next hB1⟩
    · have Hs : Hid (inB l x = false) := by rw [List.drop_of_length_le (by omega)] at he; exact he
      clear he Hr Hx
      go_wp2
      go_ret
      exact ⟨-1, rfl, by rw [Hs.out]; rfl, hB⟩
set_option maxHeartbeats 1000000 in
theorem containsf_ct (sv : Value) (l : List (Int × Int)) (x : Int) (B : Nat) (w : World) (hr : Rg w sv l) (hB0 : B < w.heap.size) (hcx : w.cell? ⟨B, 0, none⟩ = some (.int .i64 x)) :
    Calls Try.prog 33 #[sv, .func (.func 35) #[] #[.pointer (some ⟨B, 0, none⟩)]] w fun e w' => e = .returned (.bool (inB l x)) ∧ Below w.heap.size w w' := by
  have hf := indexf_ct sv l x B w hr hB0 hcx
  clear hr hcx
  go_enter Try.func33, Try.ntmps33
  go_wp2_with fail
  refine hf.mono ?_
  rintro e w1 ⟨i, rfl, hi, hB1⟩
  have Hi := Lib.hid hi
  clear hi hf
  go_wp2
  go_ret
  exact ⟨by rw [← Hi.out]; rfl, hB1⟩
set_option maxHeartbeats 1000000 in
theorem in_ct (sv : Value) (x : Int) (l : List (Int × Int)) (w : World) (hr : Rg w sv l) :
    Calls Try.prog 28 #[sv, .int .i64 x] w fun e w' => e = .returned (.bool (inB l x)) ∧ Below w.heap.size w w' := by
  have hb0 : Below w.heap.size w (w.alloc (.cells #[.int .i64 x] 3)) := (by repeat' (first | exact Below.refl _ _ | (refine Below.setCell ?_ (by first | (simp; done) | (simp; omega) | omega) _) | (refine Below.drew ?_) | (refine Below.drewN ?_ _) | (refine Below.alloc ?_ (by first | (simp; done) | (simp; omega) | omega) _)))
  have hf := containsf_ct sv l x w.heap.size (w.alloc (.cells #[.int .i64 x] 3)) (hr.below hb0) (by simp) (by simp [go_sem])
  clear hr
  generalize inB l x = r at *
  go_enter Try.func28, Try.ntmps28
  go_wp2_with fail
  refine hf.mono ?_
  rintro e w1 ⟨rfl, hB1⟩
  go_wp2
  go_ret
  exact ⟨rfl, hb0.next hB1⟩
end Go.Proofs.Ytdafilfnmdfacaa
