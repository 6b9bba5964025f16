/-
  The laws' own Few of a script, and their awake. Over this seat's translation; no condition but that numbers read as a list, and that a text is no longer than a slice may be.
-/
import Derived.Test.YtdafilfnmdfacaaSca
namespace Go.Proofs.Ytdafilfnmdfacaa
open Go.RowKit

theorem cutB_cases (n : Nat) (s : ByteArray) : (n < s.size ∧ cutB n s = s.extract 0 n) ∨ (¬ n < s.size ∧ cutB n s = s) := by
  by_cases h : n < s.size
  · exact .inl ⟨h, if_pos h⟩
  · exact .inr ⟨h, if_neg h⟩
theorem min20_cases (n : Nat) : (20 < n ∧ min n 20 = 20) ∨ (¬ 20 < n ∧ min n 20 = n) := by
  by_cases h : 20 < n
  · exact .inl ⟨h, by omega⟩
  · exact .inr ⟨h, by omega⟩
set_option maxRecDepth 100000 in
set_option maxHeartbeats 4000000 in
theorem sfew_at (a s m : ByteArray) (x : Option Addr) (n c : Nat) (w : World) (hnc : n ≤ c) (hcm : c ≤ maxLen) (hx : n = 0 ∨ ∃ y, x = some y) (ha : a.size ≤ maxLen) (hs : s.size ≤ maxLen) (hm : m.size ≤ maxLen) :
    Calls Try.prog 5 #[scrV a (.slice x n c) s m] w fun e w' => e = .returned (scrV (cutB 1201 a) (.slice x (min n 20) c) (cutB 8193 s) (cutB 2049 m)) ∧ Below w.heap.size w w' := by
  unfold maxLen at ha hs hm hcm
  unfold scrV
  have hx' : 20 < n → ∃ y, x = some y := fun h => by
    rcases hx with hx | hx
    · omega
    · exact hx
  clear hx
  generalize hA : cutB 1201 a = A at *
  generalize hN : min n 20 = N at *
  generalize hS : cutB 8193 s = S at *
  generalize hM : cutB 2049 m = M at *
  rcases min20_cases n with ⟨h2, e2⟩ | ⟨h2, e2⟩
  · obtain ⟨y, rfl⟩ := hx' h2
    rcases cutB_cases 1201 a with ⟨h1, e1⟩ | ⟨h1, e1⟩ <;> rcases cutB_cases 8193 s with ⟨h3, e3⟩ | ⟨h3, e3⟩ <;> rcases cutB_cases 2049 m with ⟨h4, e4⟩ | ⟨h4, e4⟩ <;> (
      rw [hA] at e1
      rw [hN] at e2
      rw [hS] at e3
      rw [hM] at e4
      rw [e1, e2, e3, e4]
      clear hA hN hS hM e1 e2 e3 e4
      go_enter Try.func5, Try.ntmps5
      go_wp2
      refine bodyPost_ret (by simp [results, Try.results5, go_sem]) rfl ⟨rfl, (by repeat' (first | exact Below.refl _ _ | (refine Below.setCell ?_ (by first | (simp; done) | (simp; omega) | omega) _) | (refine Below.drew ?_) | (refine Below.drewN ?_ _) | (refine Below.alloc ?_ (by first | (simp; done) | (simp; omega) | omega) _)))⟩)
  · clear hx'
    rcases cutB_cases 1201 a with ⟨h1, e1⟩ | ⟨h1, e1⟩ <;> rcases cutB_cases 8193 s with ⟨h3, e3⟩ | ⟨h3, e3⟩ <;> rcases cutB_cases 2049 m with ⟨h4, e4⟩ | ⟨h4, e4⟩ <;> (
      rw [hA] at e1
      rw [hN] at e2
      rw [hS] at e3
      rw [hM] at e4
      rw [e1, e2, e3, e4]
      clear hA hN hS hM e1 e2 e3 e4
      go_enter Try.func5, Try.ntmps5
      go_wp2
      refine bodyPost_ret (by simp [results, Try.results5, go_sem]) rfl ⟨rfl, (by repeat' (first | exact Below.refl _ _ | (refine Below.setCell ?_ (by first | (simp; done) | (simp; omega) | omega) _) | (refine Below.drew ?_) | (refine Below.drewN ?_ _) | (refine Below.alloc ?_ (by first | (simp; done) | (simp; omega) | omega) _)))⟩)
theorem sfew_ct (a s m : ByteArray) (rv : Value) (l : List Int) (w : World) (hr : Ri w rv l) (ha : a.size ≤ maxLen) (hs : s.size ≤ maxLen) (hm : m.size ≤ maxLen) :
    Calls Try.prog 5 #[scrV a rv s m] w fun e w' => e = .returned (scrV (cutB 1201 a) (cut20 rv) (cutB 8193 s) (cutB 2049 m)) ∧ Below w.heap.size w w' := by
  obtain ⟨x, c, rfl, hnc, hcm, hr⟩ := hr
  rw [cut20_slice]
  refine sfew_at a s m x _ c w hnc hcm ?_ ha hs hm
  rcases hr with rfl | ⟨b, off, rfl, _⟩
  · exact .inl rfl
  · exact .inr ⟨_, rfl⟩
end Go.Proofs.Ytdafilfnmdfacaa
