/-
  The walk of BankFollows. Over this seat's translation; octets are from 0 to 255, addresses from 0 to 65535.
-/
import Derived.Test.YtodmhmkbiafahaaBlw
namespace Go.Proofs.Ytodmhmkbiafahaa
open Go.RowKit
set_option linter.unusedSimpArgs false
set_option linter.unusedVariables false
set_option maxRecDepth 20000

theorem okP_same (m : Mp) (s a b : Int) (ha : 32768 ≤ a) (hb : 32768 ≤ b) : okP m s a = okP m s b := by
  unfold okP
  rw [show decide (32768 ≤ a) = true by simpa using ha, show decide (32768 ≤ b) = true by simpa using hb]
theorem okC_same (m : Mp) (s a b : Int) (ha : a < 8192) (hb : b < 8192) : okC m s a = okC m s b := by
  unfold okC
  rw [show decide (a < 8192) = true by simpa using ha, show decide (b < 8192) = true by simpa using hb]
theorem inP_follows (m : Mp) (s a : Int) (ha : 32768 ≤ a) : inP m s a = inP m s (a / 8192 * 8192) + a % 8192 := by
  unfold inP
  rw [show (a / 8192 * 8192 - 32768) / 8192 = (a - 32768) / 8192 by omega, show (a / 8192 * 8192 - 32768) % 8192 = 0 by omega, show (a - 32768) % 8192 = a % 8192 by omega]
  omega
theorem inC_follows (m : Mp) (s a : Int) : inC m s a = inC m s (a / 1024 * 1024) + a % 1024 := by
  unfold inC
  rw [show a / 1024 * 1024 / 1024 = a / 1024 by omega, show a / 1024 * 1024 % 1024 = 0 by omega]
  omega
set_option maxHeartbeats 8000000 in
theorem follows_walk (m : Mp) (s a : Int) (w : World) (ok : m.oct) (a0 : 0 ≤ a) (a1 : a < 65536) : Calls Try.prog 5 #[.agg (bskC m s a)] w fun e w' => e = .returned (.bool true) ∧ Below w.heap.size w w' := by
  have hp := top16 a a0 a1
  have hq := mask_1fff a a0 a1
  obtain ⟨p, ep⟩ : ∃ p, bits .or .u16 a 32768 = p := ⟨_, rfl⟩
  obtain ⟨q, eq⟩ : ∃ q, bits .and .u16 a 8191 = q := ⟨_, rfl⟩
  rw [ep] at hp
  rw [eq] at hq
  have hp0 : 32768 ≤ p := by omega
  have hp1 : p < 65536 := by omega
  have hq0 : 0 ≤ q := by omega
  have hq1 : q < 8192 := by omega
  have m1 := mask_e000 p (by omega) hp1
  have m2 := mask_1fff p (by omega) hp1
  have m3 := mask_1c00 q hq0 hq1
  have m4 := mask_3ff q hq0 (by omega)
  have K1 := fun wr => bprg_ct m ok s p wr (by omega) hp1
  have K2 := fun wr => bprg_ct m ok s (p / 8192 * 8192) wr (by omega) (by omega)
  have K3 := fun wr => bchr_ct m ok s q wr hq0 (by omega)
  have K4 := fun wr => bchr_ct m ok s (q / 1024 * 1024) wr (by omega) (by omega)
  have QA := Lib.hid (fun wr => bawake_ct wr)
  unfold mpV at K1 K2 K3 K4
  have C1 := prgV_cases m s p
  have C2 := prgV_cases m s (p / 8192 * 8192)
  have C3 := chrV_cases m s q
  have C4 := chrV_cases m s (q / 1024 * 1024)
  rw [← okP_same m s p (p / 8192 * 8192) (by omega) (by omega)] at C2 K2
  rw [← okC_same m s q (q / 1024 * 1024) (by omega) (by omega)] at C4 K4
  have D1 : okP m s p = true → prgV m s p = prgV m s (p / 8192 * 8192) + p % 8192 := fun h => by
    rcases C1 with ⟨_, e1, _, _⟩ | ⟨e, _⟩
    · rcases C2 with ⟨_, e2, _, _⟩ | ⟨e, _⟩
      · rw [e1, e2]; exact inP_follows m s p hp0
      · rw [h] at e; cases e
    · rw [h] at e; cases e
  have D3 : okC m s q = true → chrV m s q = chrV m s (q / 1024 * 1024) + q % 1024 := fun h => by
    rcases C3 with ⟨_, e1, _, _⟩ | ⟨e, _⟩
    · rcases C4 with ⟨_, e2, _, _⟩ | ⟨e, _⟩
      · rw [e1, e2]; exact inC_follows m s q
      · rw [h] at e; cases e
    · rw [h] at e; cases e
  have B2 : 0 ≤ prgV m s (p / 8192 * 8192) ∧ prgV m s (p / 8192 * 8192) < 1048576 := by
    rcases C2 with ⟨h, e2, _, _⟩ | ⟨_, e2⟩
    · have hs : prgOk s = true := by unfold okP at h; simp at h; exact h.1.2
      have := prg_sizes hs
      have := inP_in (m := m) (a := p / 8192 * 8192) hs
      omega
    · omega
  have B4 : 0 ≤ chrV m s (q / 1024 * 1024) ∧ chrV m s (q / 1024 * 1024) < 1048576 := by
    rcases C4 with ⟨h, e2, _, _⟩ | ⟨_, e2⟩
    · have hs : chrOk s = true := by unfold okC at h; simp at h; exact h.1.2
      have := chr_sizes hs
      have := inC_in (m := m) (a := q / 1024 * 1024) hs
      omega
    · omega
  rw [← m1] at K2
  rw [← m3] at K4
  rw [← m2] at D1
  rw [← m4] at D3
  have b0 : 0 ≤ bits .and .u16 p 8191 ∧ bits .and .u16 p 8191 < 65536 := by omega
  have d0 : 0 ≤ bits .and .u16 q 1023 ∧ bits .and .u16 q 1023 < 65536 := by omega
  clear C1 C2 C3 C4 ok hp hq m2 m4
  obtain ⟨x, ex⟩ : ∃ x, prgV m s p = x := ⟨_, rfl⟩
  obtain ⟨y, ey⟩ : ∃ y, chrV m s q = y := ⟨_, rfl⟩
  obtain ⟨x2, ex2⟩ : ∃ x, prgV m s (p / 8192 * 8192) = x := ⟨_, rfl⟩
  obtain ⟨y2, ey2⟩ : ∃ y, chrV m s (q / 1024 * 1024) = y := ⟨_, rfl⟩
  rw [ex] at K1 D1
  rw [ey] at K3 D3
  rw [ex2] at D1 B2
  rw [ey2] at D3 B4
  rw [m1] at K2
  rw [m3] at K4
  rw [ex2, ← m1] at K2
  rw [ey2, ← m3] at K4
  obtain ⟨p2, ep2⟩ : ∃ x, bits .and .u16 p 57344 = x := ⟨_, rfl⟩
  obtain ⟨q2, eq2⟩ : ∃ x, bits .and .u16 q 7168 = x := ⟨_, rfl⟩
  obtain ⟨p3, ep3⟩ : ∃ x, bits .and .u16 p 8191 = x := ⟨_, rfl⟩
  obtain ⟨q3, eq3⟩ : ∃ x, bits .and .u16 q 1023 = x := ⟨_, rfl⟩
  rw [ep2] at K2
  rw [eq2] at K4
  rw [ep3] at D1 b0
  rw [eq3] at D3 d0
  obtain ⟨b0, b1⟩ := b0
  obtain ⟨d0, d1⟩ := d0
  obtain ⟨B2, B3⟩ := B2
  obtain ⟨B4, B5⟩ := B4
  clear m1 m3 ex ey ex2 ey2 hp0 hp1 hq0 hq1
  have H := Mem.start w
  cases c1 : okP m s p <;> cases c3 : okC m s q
  all_goals
    rw [c1] at K1 K2 D1
    rw [c3] at K3 K4 D3
    unfold errN at K1 K2 K3 K4
    simp only [Bool.false_eq_true, if_true, if_false, forall_const, false_implies] at K1 K2 K3 K4 D1 D3
    have Q1 := Lib.hid K1
    have Q2 := Lib.hid K2
    have Q3 := Lib.hid K3
    have Q4 := Lib.hid K4
    clear K1 K2 K3 K4 c1 c3
    go_enter Try.func5, Try.ntmps5
    go_wp2_with (first
      | (go_at_call 9; first
          | (with_reducible refine (Q1.out _).mono ?_; rintro e w2 ⟨rfl, hB⟩; replace H := H.next hB; clear hB)
          | (with_reducible refine (Q2.out _).mono ?_; rintro e w2 ⟨rfl, hB⟩; replace H := H.next hB; clear hB))
      | (go_at_call 11; first
          | (with_reducible refine (Q3.out _).mono ?_; rintro e w2 ⟨rfl, hB⟩; replace H := H.next hB; clear hB)
          | (with_reducible refine (Q4.out _).mono ?_; rintro e w2 ⟨rfl, hB⟩; replace H := H.next hB; clear hB))
      | (go_at_call 13; (with_reducible refine (QA.out _).mono ?_); rintro e w2 ⟨rfl, hB⟩; replace H := H.next hB; clear hB)
      | go_skip | (refine gate_load _ _ rfl ?_; first | (refine wpList_mload rfl _ _ rfl _ _ rfl 0 H _ (mpC m) rfl (by decide +kernel) (by kernel_rfl) (bsk_part m s a) ?_))
      | go_skip | (refine wpList_mboxA rfl _ _ rfl H _ rfl ?_; clear H; intro _ w1 _ H) | (refine gate_load _ _ rfl ?_; first | (refine wpList_mloadA rfl _ _ rfl _ rfl 0 H _ rfl (by decide +kernel) (by kernel_rfl) ?_) | (refine wpList_mload1 rfl _ _ rfl _ _ rfl 0 H _ (.int _ _) rfl rfl (by decide +kernel) ?_) | (refine wpList_mload1 rfl _ _ rfl _ _ rfl 0 H _ (.bool _) rfl rfl (by decide +kernel) ?_) | (refine wpList_mload1 rfl _ _ rfl _ _ rfl 0 H _ (.pointer _) rfl rfl (by decide +kernel) ?_) | (refine wpList_mload1 rfl _ _ rfl _ _ rfl 0 H _ (.string _) rfl rfl (by decide +kernel) ?_) | (refine wpList_mload1 rfl _ _ rfl _ _ rfl 0 H _ (.slice _ _ _) rfl rfl (by decide +kernel) ?_)) | (refine gate_store _ _ _ rfl ?_; (first | (refine wpList_mstoreA rfl _ _ _ rfl rfl _ rfl 0 H _ _ rfl rfl (by kernel_rfl) (by kernel_rfl) (by kernel_rfl) ?_) | (refine wpList_mstore rfl _ _ _ rfl rfl _ _ rfl 0 H _ _ rfl (.int _ _) rfl (by kernel_rfl) (of_decide_eq_true (by kernel_rfl)) (by kernel_rfl) rfl ?_) | (refine wpList_mstore rfl _ _ _ rfl rfl _ _ rfl 0 H _ _ rfl (.bool _) rfl (by kernel_rfl) (of_decide_eq_true (by kernel_rfl)) (by kernel_rfl) rfl ?_) | (refine wpList_mstore rfl _ _ _ rfl rfl _ _ rfl 0 H _ _ rfl (.pointer _) rfl (by kernel_rfl) (of_decide_eq_true (by kernel_rfl)) (by kernel_rfl) rfl ?_) | (refine wpList_mstore rfl _ _ _ rfl rfl _ _ rfl 0 H _ _ rfl (.string _) rfl (by kernel_rfl) (of_decide_eq_true (by kernel_rfl)) (by kernel_rfl) rfl ?_) | (refine wpList_mstore rfl _ _ _ rfl rfl _ _ rfl 0 H _ _ rfl (.slice _ _ _) rfl (by kernel_rfl) (of_decide_eq_true (by kernel_rfl)) (by kernel_rfl) rfl ?_)); clear H; intro w1 H; simp only [List.set_cons_zero, List.set_cons_succ] at H)
      | fail)
    go_ret
    exact ⟨rfl, H.toBelow⟩
end Go.Proofs.Ytodmhmkbiafahaa
