/-
  The law's Few and zeros; the document's Whole and header's Split by their errors; the walk of HeaderParses. Over this seat's translation.
-/
import Derived.Test.YtaljenjnedijgaaHax
import Derived.Test.YtaljenjnedijgaaHwb
import Derived.Test.YtaljenjnedijgaaHwc
namespace Go.Proofs.Ytaljenjnedijgaa
open Go.RowKit

def fewB (s : ByteArray) : ByteArray := if 100 < s.size then s.extract 0 100 else s
theorem fewB_le (s : ByteArray) : (fewB s).size ≤ 100 := by
  unfold fewB
  split
  · rw [ByteArray.size_extract]; omega
  · omega
set_option maxHeartbeats 1000000 in
theorem hfew_ct (s : ByteArray) (w : World) (hs : s.size ≤ maxLen) : Calls Try.prog 11 #[.string s] w fun e w' => e = .returned (.string (fewB s)) ∧ Below w.heap.size w w' := by
  unfold maxLen at hs
  by_cases h : 100 < s.size
  · have e : fewB s = s.extract 0 100 := by unfold fewB; rw [if_pos h]
    rw [e]
    clear e
    have h' : (100 : Int) < (s.size : Int) := by omega
    go_enter Try.func11, Try.ntmps11
    go_wp2
    go_ret
    exact ⟨rfl, (by repeat' (first | exact Below.refl _ _ | (refine Below.setCell ?_ (by first | (simp; done) | (simp; omega) | omega) _) | (refine Below.drew ?_) | (refine Below.drewN ?_ _) | (refine Below.alloc ?_ (by first | (simp; done) | (simp; omega) | omega) _)))⟩
  · have e : fewB s = s := by unfold fewB; rw [if_neg h]
    rw [e]
    clear e
    have h' : ¬ (100 : Int) < (s.size : Int) := by omega
    go_enter Try.func11, Try.ntmps11
    go_wp2
    go_ret
    exact ⟨rfl, (by repeat' (first | exact Below.refl _ _ | (refine Below.setCell ?_ (by first | (simp; done) | (simp; omega) | omega) _) | (refine Below.drew ?_) | (refine Below.drewN ?_ _) | (refine Below.alloc ?_ (by first | (simp; done) | (simp; omega) | omega) _)))⟩
theorem whole_fine (s : ByteArray) (hE : wholeE s = 0) : 16 ≤ atN s ∧ atN s ≤ 528 ∧ chkN (hdrC s) = 0 ∧ 0 ≤ (hdrC s).p ∧ (hdrC s).p ≤ 524288 ∧ 0 ≤ givN (hdrC s) ∧ givN (hdrC s) ≤ 262144 ∧ atN s + (hdrC s).p + givN (hdrC s) ≤ (s.size : Int) := by
  cases hm : magB s
  · rw [wholeE_mag hm] at hE; cases hE
  · by_cases h0 : chkN (hdrC s) = 0
    · by_cases h1 : atN s + (hdrC s).p + givN (hdrC s) ≤ (s.size : Int)
      · have ht := trn_in s
        have hp := prg_in h0
        have hg := giv_in h0
        have ha : atN s = 16 + trnN s := rfl
        exact ⟨by omega, by omega, h0, by omega, by omega, hg.1, hg.2, h1⟩
      · rw [wholeE_cut hm h0 h1] at hE; cases hE
    · rw [wholeE_chk hm h0] at hE; exact absurd hE h0
theorem extract_none (s : ByteArray) (a : Nat) : s.extract a a = ⟨#[]⟩ := by
  apply Go.WideShapes.bytes_inj
  simp
end Go.Proofs.Ytaljenjnedijgaa
