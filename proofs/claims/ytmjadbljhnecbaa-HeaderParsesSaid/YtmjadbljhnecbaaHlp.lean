/-
  The law's Few and zeros; the document's Whole and header's Split by their errors; the walk of HeaderParses. Over this seat's translation.
-/
import Derived.Test.YtmjadbljhnecbaaHax
import Derived.Test.YtmjadbljhnecbaaHwb
import Derived.Test.YtmjadbljhnecbaaHwc
namespace Go.Proofs.Ytmjadbljhnecbaa
open Go.RowKit

def fewB (s : ByteArray) : ByteArray := if 100 < s.size then s.extract 0 100 else s
theorem fewB_le (s : ByteArray) : (fewB s).size ≤ 100 := by
  unfold fewB
  split
  · rw [ByteArray.size_extract]; omega
  · omega
set_option maxHeartbeats 1000000 in
theorem hfew_ct (s : ByteArray) (w : World) (hs : s.size ≤ maxLen) : Calls Try.prog 10 #[.string s] w fun e w' => e = .returned (.string (fewB s)) ∧ Below w.heap.size w w' := by
  unfold maxLen at hs
  by_cases h : 100 < s.size
  · have e : fewB s = s.extract 0 100 := by unfold fewB; rw [if_pos h]
    rw [e]
    clear e
    have h' : (100 : Int) < (s.size : Int) := by omega
    go_enter Try.func10, Try.ntmps10
    go_wp2
    go_ret
    exact ⟨rfl, (by repeat' (first | exact Below.refl _ _ | (refine Below.setCell ?_ (by first | (simp; done) | (simp; omega) | omega) _) | (refine Below.drew ?_) | (refine Below.drewN ?_ _) | (refine Below.alloc ?_ (by first | (simp; done) | (simp; omega) | omega) _)))⟩
  · have e : fewB s = s := by unfold fewB; rw [if_neg h]
    rw [e]
    clear e
    have h' : ¬ (100 : Int) < (s.size : Int) := by omega
    go_enter Try.func10, Try.ntmps10
    go_wp2
    go_ret
    exact ⟨rfl, (by repeat' (first | exact Below.refl _ _ | (refine Below.setCell ?_ (by first | (simp; done) | (simp; omega) | omega) _) | (refine Below.drew ?_) | (refine Below.drewN ?_ _) | (refine Below.alloc ?_ (by first | (simp; done) | (simp; omega) | omega) _)))⟩
set_option maxHeartbeats 1000000 in
theorem zeros_ct (s : ByteArray) (n : Int) (w : World) (hs : s.size ≤ 1000) (n0 : 0 ≤ n) (n1 : n < 4294967296) : Calls Try.prog 9 #[.string s, .int .u32 n] w fun e w' => e = .returned (.string (s ++ zS (n % 1000000).toNat)) ∧ Below w.heap.size w w' := by
  obtain ⟨k, hk⟩ : ∃ k : Nat, (n % 1000000).toNat = k := ⟨_, rfl⟩
  have hk' : n % 1000000 = (k : Int) := by omega
  have k1 : k < 1000000 := by omega
  have HM := Lib.hid (fun W => make_zeros k (by omega) W)
  have HN : Hid (∀ W : World, (Instr.makeSlice 42 (.int .i64 (n % 1000000)) (.int .i64 (n % 1000000))).run Try.prog W = .ok (.slice (some ⟨W.heap.size, 0, none⟩) k k) (W.alloc (zObj k))) := Lib.hid (fun W => by rw [hk']; exact make_zeros k (by omega) W)
  have CZ := fun W => conv_zeros k W
  have zz := zS_size k
  rw [hk]
  clear hk hk'
  generalize zS k = z at *
  go_enter Try.func9, Try.ntmps9
  go_wp2_with (first | (refine wpList_make_known _ rfl _ _ _ rfl _ _ rfl rfl (HN.out _) ?_) | (refine wpList_make_known _ rfl _ _ _ rfl _ _ rfl rfl (HM.out _) ?_))
  go_ret
  exact ⟨rfl, (by repeat' (first | exact Below.refl _ _ | (refine Below.setCell ?_ (by first | (simp; done) | (simp; omega) | omega) _) | (refine Below.drew ?_) | (refine Below.drewN ?_ _) | (refine Below.alloc ?_ (by first | (simp; done) | (simp; omega) | omega) _)))⟩
theorem whole_ok (s : ByteArray) (w : World) (hz : s.size ≤ maxLen) (h : wholeE s = 0) : Calls Try.prog 12 #[.string s] w fun e w' => e = .returned (.tuple #[.int .i64 (atN s), crtV (hdrC s), .int .i64 0]) ∧ Below w.heap.size w w' := by
  cases hm : magB s
  · rw [wholeE_mag hm] at h; cases h
  · have e : wholeV s = .tuple #[.int .i64 (atN s), crtV (hdrC s), .int .i64 0] := by unfold wholeV; rw [if_pos h]
    rw [← e]
    cases h7 : secK (oct s 7)
    · exact whole_y0 s w hz hm h7
    · exact whole_y1 s w hz hm h7
theorem whole_err (s : ByteArray) (w : World) (hz : s.size ≤ maxLen) (E : Int) (h : wholeE s = E) (h0 : E ≠ 0) : Calls Try.prog 12 #[.string s] w fun e w' => e = .returned (.tuple #[.int .i64 0, crtV crt0, .int .i64 E]) ∧ Below w.heap.size w w' := by
  subst h
  cases hm : magB s
  · have := whole_mag s w hz hm
    rw [wholeE_mag hm]
    exact this
  · have e : wholeV s = .tuple #[.int .i64 0, crtV crt0, .int .i64 (wholeE s)] := by unfold wholeV; rw [if_neg h0]
    rw [← e]
    cases h7 : secK (oct s 7)
    · exact whole_y0 s w hz hm h7
    · exact whole_y1 s w hz hm h7
theorem whole_fine (s : ByteArray) (hE : wholeE s = 0) : 16 ≤ atN s ∧ atN s ≤ 528 ∧ chkN (hdrC s) = 0 ∧ 0 ≤ (hdrC s).p ∧ (hdrC s).p ≤ 524288 ∧ 0 ≤ givN (hdrC s) ∧ givN (hdrC s) ≤ 262144 ∧ atN s + (hdrC s).p + givN (hdrC s) ≤ (s.size : Int) := by
  cases hm : magB s
  · rw [wholeE_mag hm] at hE; cases hE
  · by_cases h0 : chkN (hdrC s) = 0
    · by_cases h1 : atN s + (hdrC s).p + givN (hdrC s) ≤ (s.size : Int)
      · have ht := trn_in s
        have hp := prg_in h0
        have hg := giv_in h0
        have ha : atN s = 16 + trnN s := rfl
        exact ⟨by omega, by omega, h0, by omega, by omega, hg.1, hg.2, h1⟩
      · rw [wholeE_cut hm h0 h1] at hE; cases hE
    · rw [wholeE_chk hm h0] at hE; exact absurd hE h0
theorem extract_none (s : ByteArray) (a : Nat) : s.extract a a = ⟨#[]⟩ := by
  apply Go.WideShapes.bytes_inj
  simp
end Go.Proofs.Ytmjadbljhnecbaa
