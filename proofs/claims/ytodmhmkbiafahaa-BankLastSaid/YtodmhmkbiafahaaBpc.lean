/-
  Package bank's prgBanks and Prg. Over this seat's translation; octets are from 0 to 255, addresses from 0 to 65535.
-/
import Derived.Test.YtodmhmkbiafahaaBpb
namespace Go.Proofs.Ytodmhmkbiafahaa
open Go.RowKit
set_option linter.unusedSimpArgs false
set_option linter.unusedVariables false

theorem ne_beq {x y : Int} (h : ¬ x = y) : (x == y) = false := by simpa using h
set_option maxHeartbeats 2000000 in
theorem bbanks_ct (m : Mp) (ok : m.oct) (l : Int) (w : World) (l0 : 0 ≤ l) (l1 : l < 65536) : Calls Try.prog 16 #[mpV m, .int .i64 l] w fun e w' => e = .returned (.agg (b4C (pBanks m l))) ∧ Below w.heap.size w w' := by
  obtain ⟨osh, oct, ocl, oc0, oc1, opr, obk, ose, omi, or0, or1, or2, or3, or4, or5, or6, or7, olt, ocn⟩ := ok
  have HZ := Lib.hid alloc_b4
  have h7 : bits .and .u8 m.bk 7 = m.bk % 8 := byte_all (p := fun x => bits .and .u8 x 7 = x % 8) (by decide +kernel) m.bk obk.1 obk.2
  have t2 := tdiv2 l0
  have Q1 := Lib.hid (fun wr => bone_ct m l wr ocl opr l0 l1)
  have Q2 := Lib.hid (fun wr => bhalves_ct m.bk (l / 2) wr obk.1 (by omega) (by omega) (by omega))
  have Q4 := Lib.hid (fun wr => bfour_ct m l wr ose or6 or7 l0 l1)
  have Q7 := Lib.hid (fun wr => bwhole_ct (m.bk % 8) wr (by omega) (by omega))
  have Q0 := Lib.hid (fun wr => bwhole_ct 0 wr (by omega) (by omega))
  have b0 := obk.1
  have b1 := obk.2
  unfold mpV at *
  clear osh oct ocl oc0 oc1 opr obk ose omi or0 or1 or2 or3 or4 or5 or6 or7 olt ocn
  have H := Mem.start w
  have hcase : ((m.k == 1) = true ∧ pBanks m l = pOne m l) ∨ ((m.k == 1) = false ∧ (m.k == 2) = true ∧ pBanks m l = pHalves m.bk (l / 2)) ∨ ((m.k == 1) = false ∧ (m.k == 2) = false ∧ (m.k == 4) = true ∧ pBanks m l = pFour m l) ∨ ((m.k == 1) = false ∧ (m.k == 2) = false ∧ (m.k == 4) = false ∧ (m.k == 7) = true ∧ pBanks m l = pWhole (m.bk % 8)) ∨ ((m.k == 1) = false ∧ (m.k == 2) = false ∧ (m.k == 4) = false ∧ (m.k == 7) = false ∧ pBanks m l = pWhole 0) := by
    unfold pBanks
    by_cases h1 : m.k = 1
    · left; exact ⟨by simpa using h1, by rw [if_pos h1]⟩
    right
    by_cases h2 : m.k = 2
    · left; exact ⟨ne_beq h1, by simpa using h2, by rw [if_neg h1, if_pos h2]⟩
    right
    by_cases h4 : m.k = 4
    · left; exact ⟨ne_beq h1, ne_beq h2, by simpa using h4, by rw [if_neg h1, if_neg h2, if_pos h4]⟩
    right
    by_cases h7 : m.k = 7
    · left; exact ⟨ne_beq h1, ne_beq h2, ne_beq h4, by simpa using h7, by rw [if_neg h1, if_neg h2, if_neg h4, if_pos h7]⟩
    right; exact ⟨ne_beq h1, ne_beq h2, ne_beq h4, ne_beq h7, by rw [if_neg h1, if_neg h2, if_neg h4, if_neg h7]⟩
  rcases hcase with ⟨e1, E⟩ | ⟨e1, e2, E⟩ | ⟨e1, e2, e4, E⟩ | ⟨e1, e2, e4, e7, E⟩ | ⟨e1, e2, e4, e7, E⟩
  all_goals
    rw [E]
    clear E
    go_enter Try.func16, Try.ntmps16
    go_wp2_with (first
      | go_skip | (refine wpList_mboxA rfl _ _ rfl H _ rfl ?_; clear H; intro _ w1 _ H) | (refine gate_load _ _ rfl ?_; first | (refine wpList_mloadA rfl _ _ rfl _ rfl 0 H _ rfl (by decide +kernel) (by kernel_rfl) ?_) | (refine wpList_mloadA rfl _ _ rfl _ rfl 1 H _ rfl (by decide +kernel) (by kernel_rfl) ?_) | (refine wpList_mload1 rfl _ _ rfl _ _ rfl 0 H _ (.int _ _) rfl rfl (by decide +kernel) ?_) | (refine wpList_mload1 rfl _ _ rfl _ _ rfl 1 H _ (.int _ _) rfl rfl (by decide +kernel) ?_) | (refine wpList_mload1 rfl _ _ rfl _ _ rfl 0 H _ (.bool _) rfl rfl (by decide +kernel) ?_) | (refine wpList_mload1 rfl _ _ rfl _ _ rfl 1 H _ (.bool _) rfl rfl (by decide +kernel) ?_) | (refine wpList_mload1 rfl _ _ rfl _ _ rfl 0 H _ (.pointer _) rfl rfl (by decide +kernel) ?_) | (refine wpList_mload1 rfl _ _ rfl _ _ rfl 1 H _ (.pointer _) rfl rfl (by decide +kernel) ?_) | (refine wpList_mload1 rfl _ _ rfl _ _ rfl 0 H _ (.string _) rfl rfl (by decide +kernel) ?_) | (refine wpList_mload1 rfl _ _ rfl _ _ rfl 1 H _ (.string _) rfl rfl (by decide +kernel) ?_) | (refine wpList_mload1 rfl _ _ rfl _ _ rfl 0 H _ (.slice _ _ _) rfl rfl (by decide +kernel) ?_) | (refine wpList_mload1 rfl _ _ rfl _ _ rfl 1 H _ (.slice _ _ _) rfl rfl (by decide +kernel) ?_)) | (refine gate_store _ _ _ rfl ?_; (first | (refine wpList_mstoreA rfl _ _ _ rfl rfl _ rfl 0 H _ _ rfl rfl (by kernel_rfl) (by kernel_rfl) (by kernel_rfl) ?_) | (refine wpList_mstoreA rfl _ _ _ rfl rfl _ rfl 1 H _ _ rfl rfl (by kernel_rfl) (by kernel_rfl) (by kernel_rfl) ?_) | (refine wpList_mstore rfl _ _ _ rfl rfl _ _ rfl 0 H _ _ rfl (.int _ _) rfl (by kernel_rfl) (of_decide_eq_true (by kernel_rfl)) (by kernel_rfl) rfl ?_) | (refine wpList_mstore rfl _ _ _ rfl rfl _ _ rfl 1 H _ _ rfl (.int _ _) rfl (by kernel_rfl) (of_decide_eq_true (by kernel_rfl)) (by kernel_rfl) rfl ?_) | (refine wpList_mstore rfl _ _ _ rfl rfl _ _ rfl 0 H _ _ rfl (.bool _) rfl (by kernel_rfl) (of_decide_eq_true (by kernel_rfl)) (by kernel_rfl) rfl ?_) | (refine wpList_mstore rfl _ _ _ rfl rfl _ _ rfl 1 H _ _ rfl (.bool _) rfl (by kernel_rfl) (of_decide_eq_true (by kernel_rfl)) (by kernel_rfl) rfl ?_) | (refine wpList_mstore rfl _ _ _ rfl rfl _ _ rfl 0 H _ _ rfl (.pointer _) rfl (by kernel_rfl) (of_decide_eq_true (by kernel_rfl)) (by kernel_rfl) rfl ?_) | (refine wpList_mstore rfl _ _ _ rfl rfl _ _ rfl 1 H _ _ rfl (.pointer _) rfl (by kernel_rfl) (of_decide_eq_true (by kernel_rfl)) (by kernel_rfl) rfl ?_) | (refine wpList_mstore rfl _ _ _ rfl rfl _ _ rfl 0 H _ _ rfl (.string _) rfl (by kernel_rfl) (of_decide_eq_true (by kernel_rfl)) (by kernel_rfl) rfl ?_) | (refine wpList_mstore rfl _ _ _ rfl rfl _ _ rfl 1 H _ _ rfl (.string _) rfl (by kernel_rfl) (of_decide_eq_true (by kernel_rfl)) (by kernel_rfl) rfl ?_) | (refine wpList_mstore rfl _ _ _ rfl rfl _ _ rfl 0 H _ _ rfl (.slice _ _ _) rfl (by kernel_rfl) (of_decide_eq_true (by kernel_rfl)) (by kernel_rfl) rfl ?_) | (refine wpList_mstore rfl _ _ _ rfl rfl _ _ rfl 1 H _ _ rfl (.slice _ _ _) rfl (by kernel_rfl) (of_decide_eq_true (by kernel_rfl)) (by kernel_rfl) rfl ?_)); clear H; intro w1 H; simp only [List.set_cons_zero, List.set_cons_succ, b4_all] at H)
      | (go_at_call 23; (with_reducible refine (Q1.out _).mono ?_); rintro e w2 ⟨rfl, hB⟩; replace H := H.next hB; clear hB)
      | (go_at_call 24; (with_reducible refine (Q2.out _).mono ?_); rintro e w2 ⟨rfl, hB⟩; replace H := H.next hB; clear hB)
      | (go_at_call 25; (with_reducible refine (Q4.out _).mono ?_); rintro e w2 ⟨rfl, hB⟩; replace H := H.next hB; clear hB)
      | (go_at_call 26; first | (with_reducible refine (Q7.out _).mono ?_; rintro e w2 ⟨rfl, hB⟩; replace H := H.next hB; clear hB) | (with_reducible refine (Q0.out _).mono ?_; rintro e w2 ⟨rfl, hB⟩; replace H := H.next hB; clear hB))
      | (refine wpList_mnew rfl _ rfl H _ HZ.out ?_; clear H; intro _ w1 _ H))
    exact ret_mem1 rfl _ rfl 0 H _ rfl (by kernel_rfl) (by kernel_rfl) rfl ⟨rfl, H.toBelow⟩
theorem pb_bounds (m : Mp) (ok : m.oct) (l : Int) (l0 : 1 ≤ l) (l1 : l < 65536) : (0 ≤ (pBanks m l).b0 ∧ (pBanks m l).b0 < 1048576) ∧ (0 ≤ (pBanks m l).b1 ∧ (pBanks m l).b1 < 1048576) ∧ (0 ≤ (pBanks m l).b2 ∧ (pBanks m l).b2 < 1048576) ∧ (0 ≤ (pBanks m l).b3 ∧ (pBanks m l).b3 < 1048576) := by
  obtain ⟨osh, oct, ocl, oc0, oc1, opr, obk, ose, omi, or0, or1, or2, or3, or4, or5, or6, or7, olt, ocn⟩ := ok
  unfold pBanks
  split
  · unfold pOne pWhole pHalves
    split
    · simp only; omega
    · split <;> simp only <;> omega
  split
  · unfold pHalves; simp only; omega
  split
  · unfold pFour
    split <;> simp only <;> omega
  split <;> unfold pWhole pHalves <;> simp only <;> omega
set_option maxHeartbeats 4000000 in
theorem bprg_ct (m : Mp) (ok : m.oct) (s a : Int) (w : World) (a0 : 0 ≤ a) (a1 : a < 65536) : Calls Try.prog 9 #[mpV m, .int .i64 s, .int .u16 a] w fun e w' => e = .returned (.tuple #[.int .i64 (prgV m s a), .int .i64 (errN (okP m s a))]) ∧ Below w.heap.size w w' := by
  have HZ := Lib.hid alloc_b4
  have QM := fun wr => bmay_ct m s 8192 wr
  rw [show chrOk 8192 = true from rfl, Bool.and_true] at QM
  unfold mpV at *
  cases hb : (mayB m && prgOk s)
  · have E : prgV m s a = 0 ∧ okP m s a = false := by unfold prgV okP; rw [hb]; exact ⟨rfl, rfl⟩
    rw [E.1, E.2]
    rw [hb] at QM
    have QN := Lib.hid QM
    clear E hb QM ok
    have H := Mem.start w
    unfold errN
    go_enter Try.func9, Try.ntmps9
    go_wp2_with (first
      | go_skip | (refine wpList_mboxA rfl _ _ rfl H _ rfl ?_; clear H; intro _ w1 _ H) | (refine gate_load _ _ rfl ?_; first | (refine wpList_mloadA rfl _ _ rfl _ rfl 0 H _ rfl (by decide +kernel) (by kernel_rfl) ?_) | (refine wpList_mload1 rfl _ _ rfl _ _ rfl 0 H _ (.int _ _) rfl rfl (by decide +kernel) ?_) | (refine wpList_mload1 rfl _ _ rfl _ _ rfl 0 H _ (.bool _) rfl rfl (by decide +kernel) ?_) | (refine wpList_mload1 rfl _ _ rfl _ _ rfl 0 H _ (.pointer _) rfl rfl (by decide +kernel) ?_) | (refine wpList_mload1 rfl _ _ rfl _ _ rfl 0 H _ (.string _) rfl rfl (by decide +kernel) ?_) | (refine wpList_mload1 rfl _ _ rfl _ _ rfl 0 H _ (.slice _ _ _) rfl rfl (by decide +kernel) ?_)) | (refine gate_store _ _ _ rfl ?_; (first | (refine wpList_mstoreA rfl _ _ _ rfl rfl _ rfl 0 H _ _ rfl rfl (by kernel_rfl) (by kernel_rfl) (by kernel_rfl) ?_) | (refine wpList_mstore rfl _ _ _ rfl rfl _ _ rfl 0 H _ _ rfl (.int _ _) rfl (by kernel_rfl) (of_decide_eq_true (by kernel_rfl)) (by kernel_rfl) rfl ?_) | (refine wpList_mstore rfl _ _ _ rfl rfl _ _ rfl 0 H _ _ rfl (.bool _) rfl (by kernel_rfl) (of_decide_eq_true (by kernel_rfl)) (by kernel_rfl) rfl ?_) | (refine wpList_mstore rfl _ _ _ rfl rfl _ _ rfl 0 H _ _ rfl (.pointer _) rfl (by kernel_rfl) (of_decide_eq_true (by kernel_rfl)) (by kernel_rfl) rfl ?_) | (refine wpList_mstore rfl _ _ _ rfl rfl _ _ rfl 0 H _ _ rfl (.string _) rfl (by kernel_rfl) (of_decide_eq_true (by kernel_rfl)) (by kernel_rfl) rfl ?_) | (refine wpList_mstore rfl _ _ _ rfl rfl _ _ rfl 0 H _ _ rfl (.slice _ _ _) rfl (by kernel_rfl) (of_decide_eq_true (by kernel_rfl)) (by kernel_rfl) rfl ?_)); clear H; intro w1 H; simp only [List.set_cons_zero, List.set_cons_succ, b4_all] at H)
      | (go_at_call 15; (with_reducible refine (QN.out _).mono ?_); rintro e w2 ⟨rfl, hB⟩; replace H := H.next hB; clear hB))
    go_ret2
    exact ⟨rfl, H.toBelow⟩
  have hs : prgOk s = true := by simp at hb; exact hb.2
  rw [hb] at QM
  have QN := Lib.hid QM
  clear QM
  rcases Int.lt_or_le a 32768 with h | h
  · have d : decide (a < 32768) = true := by simpa using h
    have E : prgV m s a = 0 ∧ okP m s a = false := by unfold prgV okP; rw [hb, show decide (32768 ≤ a) = false by simpa using h]; exact ⟨rfl, rfl⟩
    rw [E.1, E.2]
    clear E hb ok hs
    have H := Mem.start w
    unfold errN
    go_enter Try.func9, Try.ntmps9
    go_wp2_with (first
      | go_skip | (refine wpList_mboxA rfl _ _ rfl H _ rfl ?_; clear H; intro _ w1 _ H) | (refine gate_load _ _ rfl ?_; first | (refine wpList_mloadA rfl _ _ rfl _ rfl 0 H _ rfl (by decide +kernel) (by kernel_rfl) ?_) | (refine wpList_mload1 rfl _ _ rfl _ _ rfl 0 H _ (.int _ _) rfl rfl (by decide +kernel) ?_) | (refine wpList_mload1 rfl _ _ rfl _ _ rfl 0 H _ (.bool _) rfl rfl (by decide +kernel) ?_) | (refine wpList_mload1 rfl _ _ rfl _ _ rfl 0 H _ (.pointer _) rfl rfl (by decide +kernel) ?_) | (refine wpList_mload1 rfl _ _ rfl _ _ rfl 0 H _ (.string _) rfl rfl (by decide +kernel) ?_) | (refine wpList_mload1 rfl _ _ rfl _ _ rfl 0 H _ (.slice _ _ _) rfl rfl (by decide +kernel) ?_)) | (refine gate_store _ _ _ rfl ?_; (first | (refine wpList_mstoreA rfl _ _ _ rfl rfl _ rfl 0 H _ _ rfl rfl (by kernel_rfl) (by kernel_rfl) (by kernel_rfl) ?_) | (refine wpList_mstore rfl _ _ _ rfl rfl _ _ rfl 0 H _ _ rfl (.int _ _) rfl (by kernel_rfl) (of_decide_eq_true (by kernel_rfl)) (by kernel_rfl) rfl ?_) | (refine wpList_mstore rfl _ _ _ rfl rfl _ _ rfl 0 H _ _ rfl (.bool _) rfl (by kernel_rfl) (of_decide_eq_true (by kernel_rfl)) (by kernel_rfl) rfl ?_) | (refine wpList_mstore rfl _ _ _ rfl rfl _ _ rfl 0 H _ _ rfl (.pointer _) rfl (by kernel_rfl) (of_decide_eq_true (by kernel_rfl)) (by kernel_rfl) rfl ?_) | (refine wpList_mstore rfl _ _ _ rfl rfl _ _ rfl 0 H _ _ rfl (.string _) rfl (by kernel_rfl) (of_decide_eq_true (by kernel_rfl)) (by kernel_rfl) rfl ?_) | (refine wpList_mstore rfl _ _ _ rfl rfl _ _ rfl 0 H _ _ rfl (.slice _ _ _) rfl (by kernel_rfl) (of_decide_eq_true (by kernel_rfl)) (by kernel_rfl) rfl ?_)); clear H; intro w1 H; simp only [List.set_cons_zero, List.set_cons_succ, b4_all] at H)
      | (go_at_call 15; (with_reducible refine (QN.out _).mono ?_); rintro e w2 ⟨rfl, hB⟩; replace H := H.next hB; clear hB))
    go_ret2
    exact ⟨rfl, H.toBelow⟩
  · have d : decide (a < 32768) = false := by simpa using h
    obtain ⟨z0, z1⟩ := prg_sizes hs
    have E : prgV m s a = inP m s a ∧ okP m s a = true := by unfold prgV okP; rw [hb, show decide (32768 ≤ a) = true by simpa using h]; exact ⟨rfl, rfl⟩
    rw [E.1, E.2]
    have tl := tdivn (x := s) (y := 8192) (by omega)
    have ta := tdivn (x := a - 32768) (y := 8192) (by omega)
    have QB := fun wr => bbanks_ct m ok (s / 8192 - 1) wr (by omega) (by omega)
    unfold mpV at QB
    have BB := pb_bounds m ok (s / 8192 - 1) (by omega) (by omega)
    unfold inP
    obtain ⟨B, hB⟩ : ∃ B, pBanks m (s / 8192 - 1) = B := ⟨_, rfl⟩
    rw [hB] at QB BB ⊢
    clear hB
    have hl : 0 ≤ s / 8192 ∧ s / 8192 ≤ 64 := by omega
    have QP := fun q (h : 0 ≤ q ∧ q < 1048576) wr => bplace_ct q 8192 s (a - 32768) wr h.1 h.2 (by omega) (by omega) (by omega) (by omega) (by omega) (by omega)
    have hl0 := hl.1
    have hl1 := hl.2
    have hq : (a - 32768) / 8192 = 0 ∨ (a - 32768) / 8192 = 1 ∨ (a - 32768) / 8192 = 2 ∨ (a - 32768) / 8192 = 3 := by omega
    have QC := Lib.hid QB
    clear QB E hb ok hs hl
    obtain ⟨BB0, BB1, BB2, BB3⟩ := BB
    have Q0 := Lib.hid (QP _ BB0)
    have Q1 := Lib.hid (QP _ BB1)
    have Q2 := Lib.hid (QP _ BB2)
    have Q3 := Lib.hid (QP _ BB3)
    clear QP BB0 BB1 BB2 BB3
    rcases hq with hq | hq | hq | hq
    all_goals
      rw [hq] at ta ⊢
      clear hq
      simp only [b4_at]
      have H := Mem.start w
      unfold errN
      go_enter Try.func9, Try.ntmps9
      go_wp2_with (first
        | go_skip | (refine wpList_mboxA rfl _ _ rfl H _ rfl ?_; clear H; intro _ w1 _ H) | (refine gate_load _ _ rfl ?_; first | (refine wpList_mloadA rfl _ _ rfl _ rfl 0 H _ rfl (by decide +kernel) (by kernel_rfl) ?_) | (refine wpList_mloadA rfl _ _ rfl _ rfl 1 H _ rfl (by decide +kernel) (by kernel_rfl) ?_) | (refine wpList_mload1 rfl _ _ rfl _ _ rfl 0 H _ (.int _ _) rfl rfl (by decide +kernel) ?_) | (refine wpList_mload1 rfl _ _ rfl _ _ rfl 1 H _ (.int _ _) rfl rfl (by decide +kernel) ?_) | (refine wpList_mload1 rfl _ _ rfl _ _ rfl 0 H _ (.bool _) rfl rfl (by decide +kernel) ?_) | (refine wpList_mload1 rfl _ _ rfl _ _ rfl 1 H _ (.bool _) rfl rfl (by decide +kernel) ?_) | (refine wpList_mload1 rfl _ _ rfl _ _ rfl 0 H _ (.pointer _) rfl rfl (by decide +kernel) ?_) | (refine wpList_mload1 rfl _ _ rfl _ _ rfl 1 H _ (.pointer _) rfl rfl (by decide +kernel) ?_) | (refine wpList_mload1 rfl _ _ rfl _ _ rfl 0 H _ (.string _) rfl rfl (by decide +kernel) ?_) | (refine wpList_mload1 rfl _ _ rfl _ _ rfl 1 H _ (.string _) rfl rfl (by decide +kernel) ?_) | (refine wpList_mload1 rfl _ _ rfl _ _ rfl 0 H _ (.slice _ _ _) rfl rfl (by decide +kernel) ?_) | (refine wpList_mload1 rfl _ _ rfl _ _ rfl 1 H _ (.slice _ _ _) rfl rfl (by decide +kernel) ?_)) | (refine gate_store _ _ _ rfl ?_; (first | (refine wpList_mstoreA rfl _ _ _ rfl rfl _ rfl 0 H _ _ rfl rfl (by kernel_rfl) (by kernel_rfl) (by kernel_rfl) ?_) | (refine wpList_mstoreA rfl _ _ _ rfl rfl _ rfl 1 H _ _ rfl rfl (by kernel_rfl) (by kernel_rfl) (by kernel_rfl) ?_) | (refine wpList_mstore rfl _ _ _ rfl rfl _ _ rfl 0 H _ _ rfl (.int _ _) rfl (by kernel_rfl) (of_decide_eq_true (by kernel_rfl)) (by kernel_rfl) rfl ?_) | (refine wpList_mstore rfl _ _ _ rfl rfl _ _ rfl 1 H _ _ rfl (.int _ _) rfl (by kernel_rfl) (of_decide_eq_true (by kernel_rfl)) (by kernel_rfl) rfl ?_) | (refine wpList_mstore rfl _ _ _ rfl rfl _ _ rfl 0 H _ _ rfl (.bool _) rfl (by kernel_rfl) (of_decide_eq_true (by kernel_rfl)) (by kernel_rfl) rfl ?_) | (refine wpList_mstore rfl _ _ _ rfl rfl _ _ rfl 1 H _ _ rfl (.bool _) rfl (by kernel_rfl) (of_decide_eq_true (by kernel_rfl)) (by kernel_rfl) rfl ?_) | (refine wpList_mstore rfl _ _ _ rfl rfl _ _ rfl 0 H _ _ rfl (.pointer _) rfl (by kernel_rfl) (of_decide_eq_true (by kernel_rfl)) (by kernel_rfl) rfl ?_) | (refine wpList_mstore rfl _ _ _ rfl rfl _ _ rfl 1 H _ _ rfl (.pointer _) rfl (by kernel_rfl) (of_decide_eq_true (by kernel_rfl)) (by kernel_rfl) rfl ?_) | (refine wpList_mstore rfl _ _ _ rfl rfl _ _ rfl 0 H _ _ rfl (.string _) rfl (by kernel_rfl) (of_decide_eq_true (by kernel_rfl)) (by kernel_rfl) rfl ?_) | (refine wpList_mstore rfl _ _ _ rfl rfl _ _ rfl 1 H _ _ rfl (.string _) rfl (by kernel_rfl) (of_decide_eq_true (by kernel_rfl)) (by kernel_rfl) rfl ?_) | (refine wpList_mstore rfl _ _ _ rfl rfl _ _ rfl 0 H _ _ rfl (.slice _ _ _) rfl (by kernel_rfl) (of_decide_eq_true (by kernel_rfl)) (by kernel_rfl) rfl ?_) | (refine wpList_mstore rfl _ _ _ rfl rfl _ _ rfl 1 H _ _ rfl (.slice _ _ _) rfl (by kernel_rfl) (of_decide_eq_true (by kernel_rfl)) (by kernel_rfl) rfl ?_)); clear H; intro w1 H; simp only [List.set_cons_zero, List.set_cons_succ, b4_all] at H)
        | (go_at_call 15; (with_reducible refine (QN.out _).mono ?_); rintro e w2 ⟨rfl, hB⟩; replace H := H.next hB; clear hB)
        | (go_at_call 16; (with_reducible refine (QC.out _).mono ?_); rintro e w2 ⟨rfl, hB⟩; replace H := H.next hB; clear hB)
        | (go_at_call 17; first
            | (with_reducible refine (Q0.out _).mono ?_; rintro e w2 ⟨rfl, hB⟩; replace H := H.next hB; clear hB)
            | (with_reducible refine (Q1.out _).mono ?_; rintro e w2 ⟨rfl, hB⟩; replace H := H.next hB; clear hB)
            | (with_reducible refine (Q2.out _).mono ?_; rintro e w2 ⟨rfl, hB⟩; replace H := H.next hB; clear hB)
            | (with_reducible refine (Q3.out _).mono ?_; rintro e w2 ⟨rfl, hB⟩; replace H := H.next hB; clear hB))
        | (refine wpList_mnew rfl _ rfl H _ HZ.out ?_; clear H; intro _ w1 _ H))
      go_ret2
      exact ⟨rfl, H.toBelow⟩
end Go.Proofs.Ytodmhmkbiafahaa
