/-
  The walk of BankWithin. Over this seat's translation; octets are from 0 to 255, addresses from 0 to 65535.
-/
import Derived.Test.YtodmhmkbiafahaaBaw
import Derived.Test.YtodmhmkbiafahaaBmk
namespace Go.Proofs.Ytodmhmkbiafahaa
open Go.RowKit
set_option linter.unusedSimpArgs false
set_option linter.unusedVariables false
set_option maxRecDepth 20000

theorem inP_in {m : Mp} {s a : Int} (hs : prgOk s = true) : 0 ≤ inP m s a ∧ inP m s a < s := by
  unfold inP
  generalize (pBanks m (s / 8192 - 1)).at ((a - 32768) / 8192) = x
  rcases prgOk_iff.1 hs with rfl | rfl | rfl | rfl | rfl | rfl <;> omega
theorem inC_in {m : Mp} {s a : Int} (hs : chrOk s = true) : 0 ≤ inC m s a ∧ inC m s a < s := by
  unfold inC
  generalize (cBanks m).at (a / 1024) = x
  rcases chrOk_iff.1 hs with rfl | rfl | rfl | rfl | rfl | rfl <;> omega
theorem prgV_cases (m : Mp) (s a : Int) : (okP m s a = true ∧ prgV m s a = inP m s a ∧ decide (prgV m s a < 0) = false ∧ decide (s ≤ prgV m s a) = false) ∨ (okP m s a = false ∧ prgV m s a = 0) := by
  unfold prgV
  cases h : okP m s a
  · right; exact ⟨rfl, rfl⟩
  · left
    have hs : prgOk s = true := by unfold okP at h; simp at h; exact h.1.2
    obtain ⟨h1, h2⟩ := inP_in (m := m) (a := a) hs
    rw [if_pos rfl]
    exact ⟨rfl, rfl, by simp; omega, by simp; omega⟩
theorem chrV_cases (m : Mp) (s a : Int) : (okC m s a = true ∧ chrV m s a = inC m s a ∧ decide (chrV m s a < 0) = false ∧ decide (s ≤ chrV m s a) = false) ∨ (okC m s a = false ∧ chrV m s a = 0) := by
  unfold chrV
  cases h : okC m s a
  · right; exact ⟨rfl, rfl⟩
  · left
    have hs : chrOk s = true := by unfold okC at h; simp at h; exact h.1.2
    obtain ⟨h1, h2⟩ := inC_in (m := m) (a := a) hs
    rw [if_pos rfl]
    exact ⟨rfl, rfl, by simp; omega, by simp; omega⟩
set_option maxHeartbeats 4000000 in
theorem within_walk (m : Mp) (s a : Int) (w : World) (ok : m.oct) (a0 : 0 ≤ a) (a1 : a < 65536) : Calls Try.prog 4 #[.agg (bskC m s a)] w fun e w' => e = .returned (.bool true) ∧ Below w.heap.size w w' := by
  have hp := top16 a a0 a1
  have hq := mask_1fff a a0 a1
  obtain ⟨p, ep⟩ : ∃ p, bits .or .u16 a 32768 = p := ⟨_, rfl⟩
  obtain ⟨q, eq⟩ : ∃ q, bits .and .u16 a 8191 = q := ⟨_, rfl⟩
  rw [ep] at hp
  rw [eq] at hq
  have K1 := fun wr => bprg_ct m ok s p wr (by omega) (by omega)
  have K3 := fun wr => bchr_ct m ok s q wr (by omega) (by omega)
  have QA := Lib.hid (fun wr => bawake_ct wr)
  unfold mpV at K1 K3
  have C1 := prgV_cases m s p
  have C3 := chrV_cases m s q
  obtain ⟨x, ex⟩ : ∃ x, prgV m s p = x := ⟨_, rfl⟩
  obtain ⟨y, ey⟩ : ∃ y, chrV m s q = y := ⟨_, rfl⟩
  rw [ex] at K1 C1
  rw [ey] at K3 C3
  clear ok hp hq ex ey
  have H := Mem.start w
  rcases C1 with ⟨c1, -, f1, f2⟩ | ⟨c1, rfl⟩ <;> rcases C3 with ⟨c3, -, f3, f4⟩ | ⟨c3, rfl⟩
  all_goals
    rw [c1] at K1
    rw [c3] at K3
    unfold errN at K1 K3
    simp only [Bool.false_eq_true, if_true, if_false] at K1 K3
    have Q1 := Lib.hid K1
    have Q3 := Lib.hid K3
    clear K1 K3 c1 c3
    go_enter Try.func4, Try.ntmps4
    go_wp2_with (first
      | (go_at_call 9; (with_reducible refine (Q1.out _).mono ?_); rintro e w2 ⟨rfl, hB⟩; replace H := H.next hB; clear hB)
      | (go_at_call 11; (with_reducible refine (Q3.out _).mono ?_); rintro e w2 ⟨rfl, hB⟩; replace H := H.next hB; clear hB)
      | (go_at_call 13; (with_reducible refine (QA.out _).mono ?_); rintro e w2 ⟨rfl, hB⟩; replace H := H.next hB; clear hB)
      | go_skip | (refine gate_load _ _ rfl ?_; first | (refine wpList_mload rfl _ _ rfl _ _ rfl 0 H _ (mpC m) rfl (by decide +kernel) (by kernel_rfl) (bsk_part m s a) ?_))
      | go_skip | (refine wpList_mboxA rfl _ _ rfl H _ rfl ?_; clear H; intro _ w1 _ H) | (refine gate_load _ _ rfl ?_; first | (refine wpList_mloadA rfl _ _ rfl _ rfl 0 H _ rfl (by decide +kernel) (by kernel_rfl) ?_) | (refine wpList_mload1 rfl _ _ rfl _ _ rfl 0 H _ (.int _ _) rfl rfl (by decide +kernel) ?_) | (refine wpList_mload1 rfl _ _ rfl _ _ rfl 0 H _ (.bool _) rfl rfl (by decide +kernel) ?_) | (refine wpList_mload1 rfl _ _ rfl _ _ rfl 0 H _ (.pointer _) rfl rfl (by decide +kernel) ?_) | (refine wpList_mload1 rfl _ _ rfl _ _ rfl 0 H _ (.string _) rfl rfl (by decide +kernel) ?_) | (refine wpList_mload1 rfl _ _ rfl _ _ rfl 0 H _ (.slice _ _ _) rfl rfl (by decide +kernel) ?_)) | (refine gate_store _ _ _ rfl ?_; (first | (refine wpList_mstoreA rfl _ _ _ rfl rfl _ rfl 0 H _ _ rfl rfl (by kernel_rfl) (by kernel_rfl) (by kernel_rfl) ?_) | (refine wpList_mstore rfl _ _ _ rfl rfl _ _ rfl 0 H _ _ rfl (.int _ _) rfl (by kernel_rfl) (of_decide_eq_true (by kernel_rfl)) (by kernel_rfl) rfl ?_) | (refine wpList_mstore rfl _ _ _ rfl rfl _ _ rfl 0 H _ _ rfl (.bool _) rfl (by kernel_rfl) (of_decide_eq_true (by kernel_rfl)) (by kernel_rfl) rfl ?_) | (refine wpList_mstore rfl _ _ _ rfl rfl _ _ rfl 0 H _ _ rfl (.pointer _) rfl (by kernel_rfl) (of_decide_eq_true (by kernel_rfl)) (by kernel_rfl) rfl ?_) | (refine wpList_mstore rfl _ _ _ rfl rfl _ _ rfl 0 H _ _ rfl (.string _) rfl (by kernel_rfl) (of_decide_eq_true (by kernel_rfl)) (by kernel_rfl) rfl ?_) | (refine wpList_mstore rfl _ _ _ rfl rfl _ _ rfl 0 H _ _ rfl (.slice _ _ _) rfl (by kernel_rfl) (of_decide_eq_true (by kernel_rfl)) (by kernel_rfl) rfl ?_)); clear H; intro w1 H; simp only [List.set_cons_zero, List.set_cons_succ] at H)
      | fail)
    go_ret
    exact ⟨rfl, H.toBelow⟩
end Go.Proofs.Ytodmhmkbiafahaa
