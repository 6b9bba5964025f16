/-
  Package bank's chrBanks and Chr. Over this seat's translation; octets are from 0 to 255, addresses from 0 to 65535.
-/
import Derived.Test.YtodmhmkbiafahaaBcb
import Derived.Test.YtodmhmkbiafahaaBpc
namespace Go.Proofs.Ytodmhmkbiafahaa
open Go.RowKit
set_option linter.unusedSimpArgs false
set_option linter.unusedVariables false

set_option maxHeartbeats 2000000 in
theorem cbanks_ct (m : Mp) (ok : m.oct) (w : World) : Calls Try.prog 20 #[mpV m] w fun e w' => e = .returned (.agg (b8C (cBanks m))) ∧ Below w.heap.size w w' := by
  obtain ⟨osh, oct, ocl, oc0, oc1, opr, obk, ose, omi, or0, or1, or2, or3, or4, or5, or6, or7, olt, ocn⟩ := ok
  have HZ := Lib.hid alloc_b8
  have h16 : bits .and .u8 m.cl 16 = m.cl / 16 % 2 * 16 := byte_all (p := fun x => bits .and .u8 x 16 = x / 16 % 2 * 16) (by decide +kernel) m.cl ocl.1 ocl.2
  have t2 := tdiv2 oc0.1
  have Q1 := Lib.hid (fun wr => chalves_ct m.c0 m.c1 wr oc0.1 (by omega) oc1.1 (by omega))
  have Q2 := Lib.hid (fun wr => cwhole_ct (m.c0 / 2) wr (by omega) (by omega))
  have Q3 := Lib.hid (fun wr => cwhole_ct m.bk wr (by omega) (by omega))
  have Q4 := Lib.hid (fun wr => cfour_ct m wr ose or0 or1 or2 or3 or4 or5)
  have Q0 := Lib.hid (fun wr => cwhole_ct 0 wr (by omega) (by omega))
  have b0 := obk.1
  have b1 := obk.2
  have x0 := oc0.1
  have x1 := oc0.2
  have y0 := oc1.1
  have y1 := oc1.2
  unfold mpV at *
  have hc : m.cl / 16 % 2 = 1 ∨ m.cl / 16 % 2 = 0 := by omega
  clear osh oct ocl oc0 oc1 opr obk ose omi or0 or1 or2 or3 or4 or5 or6 or7 olt ocn
  have H := Mem.start w
  have hcase : ((m.k == 1) = true ∧ bits .and .u8 m.cl 16 = 16 ∧ cBanks m = cHalves m.c0 m.c1) ∨ ((m.k == 1) = true ∧ bits .and .u8 m.cl 16 = 0 ∧ cBanks m = cWhole (m.c0 / 2)) ∨ ((m.k == 1) = false ∧ (m.k == 3) = true ∧ cBanks m = cWhole m.bk) ∨ ((m.k == 1) = false ∧ (m.k == 3) = false ∧ (m.k == 4) = true ∧ cBanks m = cFour m) ∨ ((m.k == 1) = false ∧ (m.k == 3) = false ∧ (m.k == 4) = false ∧ cBanks m = cWhole 0) := by
    unfold cBanks
    by_cases h1 : m.k = 1
    · rcases hc with hc | hc
      · left; exact ⟨by simpa using h1, by rw [h16, hc]; rfl, by rw [if_pos h1, if_pos hc]⟩
      · right; left; exact ⟨by simpa using h1, by rw [h16, hc]; rfl, by rw [if_pos h1, if_neg (by omega)]⟩
    right; right
    by_cases h2 : m.k = 3
    · left; exact ⟨ne_beq h1, by simpa using h2, by rw [if_neg h1, if_pos h2]⟩
    right
    by_cases h4 : m.k = 4
    · left; exact ⟨ne_beq h1, ne_beq h2, by simpa using h4, by rw [if_neg h1, if_neg h2, if_pos h4]⟩
    right; exact ⟨ne_beq h1, ne_beq h2, ne_beq h4, by rw [if_neg h1, if_neg h2, if_neg h4]⟩
  clear hc h16
  rcases hcase with ⟨e1, e2, E⟩ | ⟨e1, e2, E⟩ | ⟨e1, e2, E⟩ | ⟨e1, e2, e4, E⟩ | ⟨e1, e2, e4, E⟩
  all_goals
    rw [E]
    clear E
    go_enter Try.func20, Try.ntmps20
    go_wp2_with (first
      | go_skip | (refine wpList_mboxA rfl _ _ rfl H _ rfl ?_; clear H; intro _ w1 _ H) | (refine gate_load _ _ rfl ?_; first | (refine wpList_mloadA rfl _ _ rfl _ rfl 0 H _ rfl (by decide +kernel) (by kernel_rfl) ?_) | (refine wpList_mloadA rfl _ _ rfl _ rfl 1 H _ rfl (by decide +kernel) (by kernel_rfl) ?_) | (refine wpList_mload1 rfl _ _ rfl _ _ rfl 0 H _ (.int _ _) rfl rfl (by decide +kernel) ?_) | (refine wpList_mload1 rfl _ _ rfl _ _ rfl 1 H _ (.int _ _) rfl rfl (by decide +kernel) ?_) | (refine wpList_mload1 rfl _ _ rfl _ _ rfl 0 H _ (.bool _) rfl rfl (by decide +kernel) ?_) | (refine wpList_mload1 rfl _ _ rfl _ _ rfl 1 H _ (.bool _) rfl rfl (by decide +kernel) ?_) | (refine wpList_mload1 rfl _ _ rfl _ _ rfl 0 H _ (.pointer _) rfl rfl (by decide +kernel) ?_) | (refine wpList_mload1 rfl _ _ rfl _ _ rfl 1 H _ (.pointer _) rfl rfl (by decide +kernel) ?_) | (refine wpList_mload1 rfl _ _ rfl _ _ rfl 0 H _ (.string _) rfl rfl (by decide +kernel) ?_) | (refine wpList_mload1 rfl _ _ rfl _ _ rfl 1 H _ (.string _) rfl rfl (by decide +kernel) ?_) | (refine wpList_mload1 rfl _ _ rfl _ _ rfl 0 H _ (.slice _ _ _) rfl rfl (by decide +kernel) ?_) | (refine wpList_mload1 rfl _ _ rfl _ _ rfl 1 H _ (.slice _ _ _) rfl rfl (by decide +kernel) ?_)) | (refine gate_store _ _ _ rfl ?_; (first | (refine wpList_mstoreA rfl _ _ _ rfl rfl _ rfl 0 H _ _ rfl rfl (by kernel_rfl) (by kernel_rfl) (by kernel_rfl) ?_) | (refine wpList_mstoreA rfl _ _ _ rfl rfl _ rfl 1 H _ _ rfl rfl (by kernel_rfl) (by kernel_rfl) (by kernel_rfl) ?_) | (refine wpList_mstore rfl _ _ _ rfl rfl _ _ rfl 0 H _ _ rfl (.int _ _) rfl (by kernel_rfl) (of_decide_eq_true (by kernel_rfl)) (by kernel_rfl) rfl ?_) | (refine wpList_mstore rfl _ _ _ rfl rfl _ _ rfl 1 H _ _ rfl (.int _ _) rfl (by kernel_rfl) (of_decide_eq_true (by kernel_rfl)) (by kernel_rfl) rfl ?_) | (refine wpList_mstore rfl _ _ _ rfl rfl _ _ rfl 0 H _ _ rfl (.bool _) rfl (by kernel_rfl) (of_decide_eq_true (by kernel_rfl)) (by kernel_rfl) rfl ?_) | (refine wpList_mstore rfl _ _ _ rfl rfl _ _ rfl 1 H _ _ rfl (.bool _) rfl (by kernel_rfl) (of_decide_eq_true (by kernel_rfl)) (by kernel_rfl) rfl ?_) | (refine wpList_mstore rfl _ _ _ rfl rfl _ _ rfl 0 H _ _ rfl (.pointer _) rfl (by kernel_rfl) (of_decide_eq_true (by kernel_rfl)) (by kernel_rfl) rfl ?_) | (refine wpList_mstore rfl _ _ _ rfl rfl _ _ rfl 1 H _ _ rfl (.pointer _) rfl (by kernel_rfl) (of_decide_eq_true (by kernel_rfl)) (by kernel_rfl) rfl ?_) | (refine wpList_mstore rfl _ _ _ rfl rfl _ _ rfl 0 H _ _ rfl (.string _) rfl (by kernel_rfl) (of_decide_eq_true (by kernel_rfl)) (by kernel_rfl) rfl ?_) | (refine wpList_mstore rfl _ _ _ rfl rfl _ _ rfl 1 H _ _ rfl (.string _) rfl (by kernel_rfl) (of_decide_eq_true (by kernel_rfl)) (by kernel_rfl) rfl ?_) | (refine wpList_mstore rfl _ _ _ rfl rfl _ _ rfl 0 H _ _ rfl (.slice _ _ _) rfl (by kernel_rfl) (of_decide_eq_true (by kernel_rfl)) (by kernel_rfl) rfl ?_) | (refine wpList_mstore rfl _ _ _ rfl rfl _ _ rfl 1 H _ _ rfl (.slice _ _ _) rfl (by kernel_rfl) (of_decide_eq_true (by kernel_rfl)) (by kernel_rfl) rfl ?_)); clear H; intro w1 H; simp only [List.set_cons_zero, List.set_cons_succ, b8_all] at H)
      | (go_at_call 28; (with_reducible refine (Q1.out _).mono ?_); rintro e w2 ⟨rfl, hB⟩; replace H := H.next hB; clear hB)
      | (go_at_call 30; (with_reducible refine (Q4.out _).mono ?_); rintro e w2 ⟨rfl, hB⟩; replace H := H.next hB; clear hB)
      | (go_at_call 29; first | (with_reducible refine (Q2.out _).mono ?_; rintro e w2 ⟨rfl, hB⟩; replace H := H.next hB; clear hB) | (with_reducible refine (Q3.out _).mono ?_; rintro e w2 ⟨rfl, hB⟩; replace H := H.next hB; clear hB) | (with_reducible refine (Q0.out _).mono ?_; rintro e w2 ⟨rfl, hB⟩; replace H := H.next hB; clear hB))
      | (refine wpList_mnew rfl _ rfl H _ HZ.out ?_; clear H; intro _ w1 _ H))
    exact ret_mem1 rfl _ rfl 0 H _ rfl (by kernel_rfl) (by kernel_rfl) rfl ⟨rfl, H.toBelow⟩
theorem cb_bounds (m : Mp) (ok : m.oct) : (0 ≤ (cBanks m).b0 ∧ (cBanks m).b0 < 1048576) ∧ (0 ≤ (cBanks m).b1 ∧ (cBanks m).b1 < 1048576) ∧ (0 ≤ (cBanks m).b2 ∧ (cBanks m).b2 < 1048576) ∧ (0 ≤ (cBanks m).b3 ∧ (cBanks m).b3 < 1048576) ∧ (0 ≤ (cBanks m).b4 ∧ (cBanks m).b4 < 1048576) ∧ (0 ≤ (cBanks m).b5 ∧ (cBanks m).b5 < 1048576) ∧ (0 ≤ (cBanks m).b6 ∧ (cBanks m).b6 < 1048576) ∧ (0 ≤ (cBanks m).b7 ∧ (cBanks m).b7 < 1048576) := by
  obtain ⟨osh, oct, ocl, oc0, oc1, opr, obk, ose, omi, or0, or1, or2, or3, or4, or5, or6, or7, olt, ocn⟩ := ok
  unfold cBanks
  split
  · split <;> simp only [cWhole, cHalves] <;> omega
  split
  · simp only [cWhole, cHalves]; omega
  split
  · unfold cFour
    split <;> simp only <;> omega
  simp only [cWhole, cHalves]; omega
set_option maxHeartbeats 8000000 in
theorem bchr_ct (m : Mp) (ok : m.oct) (s a : Int) (w : World) (a0 : 0 ≤ a) (a1 : a < 65536) : Calls Try.prog 11 #[mpV m, .int .i64 s, .int .u16 a] w fun e w' => e = .returned (.tuple #[.int .i64 (chrV m s a), .int .i64 (errN (okC m s a))]) ∧ Below w.heap.size w w' := by
  have HZ := Lib.hid alloc_b8
  have QM := fun wr => bmay_ct m 16384 s wr
  rw [show prgOk 16384 = true from rfl, Bool.true_and] at QM
  unfold mpV at *
  cases hb : (mayB m && chrOk s)
  · have E : chrV m s a = 0 ∧ okC m s a = false := by unfold chrV okC; rw [hb]; exact ⟨rfl, rfl⟩
    rw [E.1, E.2]
    rw [hb] at QM
    have QN := Lib.hid QM
    clear E hb QM ok
    have H := Mem.start w
    unfold errN
    go_enter Try.func11, Try.ntmps11
    go_wp2_with (first
      | go_skip | (refine wpList_mboxA rfl _ _ rfl H _ rfl ?_; clear H; intro _ w1 _ H) | (refine gate_load _ _ rfl ?_; first | (refine wpList_mloadA rfl _ _ rfl _ rfl 0 H _ rfl (by decide +kernel) (by kernel_rfl) ?_) | (refine wpList_mload1 rfl _ _ rfl _ _ rfl 0 H _ (.int _ _) rfl rfl (by decide +kernel) ?_) | (refine wpList_mload1 rfl _ _ rfl _ _ rfl 0 H _ (.bool _) rfl rfl (by decide +kernel) ?_) | (refine wpList_mload1 rfl _ _ rfl _ _ rfl 0 H _ (.pointer _) rfl rfl (by decide +kernel) ?_) | (refine wpList_mload1 rfl _ _ rfl _ _ rfl 0 H _ (.string _) rfl rfl (by decide +kernel) ?_) | (refine wpList_mload1 rfl _ _ rfl _ _ rfl 0 H _ (.slice _ _ _) rfl rfl (by decide +kernel) ?_)) | (refine gate_store _ _ _ rfl ?_; (first | (refine wpList_mstoreA rfl _ _ _ rfl rfl _ rfl 0 H _ _ rfl rfl (by kernel_rfl) (by kernel_rfl) (by kernel_rfl) ?_) | (refine wpList_mstore rfl _ _ _ rfl rfl _ _ rfl 0 H _ _ rfl (.int _ _) rfl (by kernel_rfl) (of_decide_eq_true (by kernel_rfl)) (by kernel_rfl) rfl ?_) | (refine wpList_mstore rfl _ _ _ rfl rfl _ _ rfl 0 H _ _ rfl (.bool _) rfl (by kernel_rfl) (of_decide_eq_true (by kernel_rfl)) (by kernel_rfl) rfl ?_) | (refine wpList_mstore rfl _ _ _ rfl rfl _ _ rfl 0 H _ _ rfl (.pointer _) rfl (by kernel_rfl) (of_decide_eq_true (by kernel_rfl)) (by kernel_rfl) rfl ?_) | (refine wpList_mstore rfl _ _ _ rfl rfl _ _ rfl 0 H _ _ rfl (.string _) rfl (by kernel_rfl) (of_decide_eq_true (by kernel_rfl)) (by kernel_rfl) rfl ?_) | (refine wpList_mstore rfl _ _ _ rfl rfl _ _ rfl 0 H _ _ rfl (.slice _ _ _) rfl (by kernel_rfl) (of_decide_eq_true (by kernel_rfl)) (by kernel_rfl) rfl ?_)); clear H; intro w1 H; simp only [List.set_cons_zero, List.set_cons_succ, b8_all] at H)
      | (go_at_call 15; (with_reducible refine (QN.out _).mono ?_); rintro e w2 ⟨rfl, hB⟩; replace H := H.next hB; clear hB))
    go_ret2
    exact ⟨rfl, H.toBelow⟩
  have hs : chrOk s = true := by simp at hb; exact hb.2
  rw [hb] at QM
  have QN := Lib.hid QM
  clear QM
  rcases Int.lt_or_le a 8192 with h | h
  · have d : decide (8192 ≤ a) = false := by simpa using h
    obtain ⟨z0, z1⟩ := chr_sizes hs
    have E : chrV m s a = inC m s a ∧ okC m s a = true := by unfold chrV okC; rw [hb, show decide (a < 8192) = true by simpa using h]; exact ⟨rfl, rfl⟩
    rw [E.1, E.2]
    have ta := tdivn (x := a) (y := 1024) a0
    have QB := fun wr => cbanks_ct m ok wr
    unfold mpV at QB
    have BB := cb_bounds m ok
    unfold inC
    obtain ⟨B, hB⟩ : ∃ B, cBanks m = B := ⟨_, rfl⟩
    rw [hB] at QB BB ⊢
    clear hB
    have QP := fun q (h : 0 ≤ q ∧ q < 1048576) wr => bplace_ct q 1024 s a wr h.1 h.2 (by omega) (by omega) (by omega) (by omega) (by omega) (by omega)
    have hq : a / 1024 = 0 ∨ a / 1024 = 1 ∨ a / 1024 = 2 ∨ a / 1024 = 3 ∨ a / 1024 = 4 ∨ a / 1024 = 5 ∨ a / 1024 = 6 ∨ a / 1024 = 7 := by omega
    have QC := Lib.hid QB
    clear QB E hb ok hs
    obtain ⟨BB0, BB1, BB2, BB3, BB4, BB5, BB6, BB7⟩ := BB
    have QQ : ∀ i : Int, i = 0 ∨ i = 1 ∨ i = 2 ∨ i = 3 ∨ i = 4 ∨ i = 5 ∨ i = 6 ∨ i = 7 → ∀ wr, Calls Try.prog 17 #[.int .i64 (B.at i), .int .i64 1024, .int .i64 s, .int .i64 a] wr fun e w' => e = .returned (.int .i64 (B.at i * 1024 % s + a % 1024)) ∧ Below wr.heap.size wr w' := by
      intro i hi
      rcases hi with rfl | rfl | rfl | rfl | rfl | rfl | rfl | rfl
      · exact QP _ BB0
      · exact QP _ BB1
      · exact QP _ BB2
      · exact QP _ BB3
      · exact QP _ BB4
      · exact QP _ BB5
      · exact QP _ BB6
      · exact QP _ BB7
    have QI := QQ _ hq
    clear QP QQ BB0 BB1 BB2 BB3 BB4 BB5 BB6 BB7
    rcases hq with hq | hq | hq | hq | hq | hq | hq | hq
    all_goals
      rw [hq] at ta QI ⊢
      clear hq
      simp only [b8_at] at QI ⊢
      have QJ := Lib.hid QI
      clear QI
      have H := Mem.start w
      unfold errN
      go_enter Try.func11, Try.ntmps11
      go_wp2_with (first
        | go_skip | (refine wpList_mboxA rfl _ _ rfl H _ rfl ?_; clear H; intro _ w1 _ H) | (refine gate_load _ _ rfl ?_; first | (refine wpList_mloadA rfl _ _ rfl _ rfl 0 H _ rfl (by decide +kernel) (by kernel_rfl) ?_) | (refine wpList_mloadA rfl _ _ rfl _ rfl 1 H _ rfl (by decide +kernel) (by kernel_rfl) ?_) | (refine wpList_mload1 rfl _ _ rfl _ _ rfl 0 H _ (.int _ _) rfl rfl (by decide +kernel) ?_) | (refine wpList_mload1 rfl _ _ rfl _ _ rfl 1 H _ (.int _ _) rfl rfl (by decide +kernel) ?_) | (refine wpList_mload1 rfl _ _ rfl _ _ rfl 0 H _ (.bool _) rfl rfl (by decide +kernel) ?_) | (refine wpList_mload1 rfl _ _ rfl _ _ rfl 1 H _ (.bool _) rfl rfl (by decide +kernel) ?_) | (refine wpList_mload1 rfl _ _ rfl _ _ rfl 0 H _ (.pointer _) rfl rfl (by decide +kernel) ?_) | (refine wpList_mload1 rfl _ _ rfl _ _ rfl 1 H _ (.pointer _) rfl rfl (by decide +kernel) ?_) | (refine wpList_mload1 rfl _ _ rfl _ _ rfl 0 H _ (.string _) rfl rfl (by decide +kernel) ?_) | (refine wpList_mload1 rfl _ _ rfl _ _ rfl 1 H _ (.string _) rfl rfl (by decide +kernel) ?_) | (refine wpList_mload1 rfl _ _ rfl _ _ rfl 0 H _ (.slice _ _ _) rfl rfl (by decide +kernel) ?_) | (refine wpList_mload1 rfl _ _ rfl _ _ rfl 1 H _ (.slice _ _ _) rfl rfl (by decide +kernel) ?_)) | (refine gate_store _ _ _ rfl ?_; (first | (refine wpList_mstoreA rfl _ _ _ rfl rfl _ rfl 0 H _ _ rfl rfl (by kernel_rfl) (by kernel_rfl) (by kernel_rfl) ?_) | (refine wpList_mstoreA rfl _ _ _ rfl rfl _ rfl 1 H _ _ rfl rfl (by kernel_rfl) (by kernel_rfl) (by kernel_rfl) ?_) | (refine wpList_mstore rfl _ _ _ rfl rfl _ _ rfl 0 H _ _ rfl (.int _ _) rfl (by kernel_rfl) (of_decide_eq_true (by kernel_rfl)) (by kernel_rfl) rfl ?_) | (refine wpList_mstore rfl _ _ _ rfl rfl _ _ rfl 1 H _ _ rfl (.int _ _) rfl (by kernel_rfl) (of_decide_eq_true (by kernel_rfl)) (by kernel_rfl) rfl ?_) | (refine wpList_mstore rfl _ _ _ rfl rfl _ _ rfl 0 H _ _ rfl (.bool _) rfl (by kernel_rfl) (of_decide_eq_true (by kernel_rfl)) (by kernel_rfl) rfl ?_) | (refine wpList_mstore rfl _ _ _ rfl rfl _ _ rfl 1 H _ _ rfl (.bool _) rfl (by kernel_rfl) (of_decide_eq_true (by kernel_rfl)) (by kernel_rfl) rfl ?_) | (refine wpList_mstore rfl _ _ _ rfl rfl _ _ rfl 0 H _ _ rfl (.pointer _) rfl (by kernel_rfl) (of_decide_eq_true (by kernel_rfl)) (by kernel_rfl) rfl ?_) | (refine wpList_mstore rfl _ _ _ rfl rfl _ _ rfl 1 H _ _ rfl (.pointer _) rfl (by kernel_rfl) (of_decide_eq_true (by kernel_rfl)) (by kernel_rfl) rfl ?_) | (refine wpList_mstore rfl _ _ _ rfl rfl _ _ rfl 0 H _ _ rfl (.string _) rfl (by kernel_rfl) (of_decide_eq_true (by kernel_rfl)) (by kernel_rfl) rfl ?_) | (refine wpList_mstore rfl _ _ _ rfl rfl _ _ rfl 1 H _ _ rfl (.string _) rfl (by kernel_rfl) (of_decide_eq_true (by kernel_rfl)) (by kernel_rfl) rfl ?_) | (refine wpList_mstore rfl _ _ _ rfl rfl _ _ rfl 0 H _ _ rfl (.slice _ _ _) rfl (by kernel_rfl) (of_decide_eq_true (by kernel_rfl)) (by kernel_rfl) rfl ?_) | (refine wpList_mstore rfl _ _ _ rfl rfl _ _ rfl 1 H _ _ rfl (.slice _ _ _) rfl (by kernel_rfl) (of_decide_eq_true (by kernel_rfl)) (by kernel_rfl) rfl ?_)); clear H; intro w1 H; simp only [List.set_cons_zero, List.set_cons_succ, b8_all] at H)
        | (go_at_call 15; (with_reducible refine (QN.out _).mono ?_); rintro e w2 ⟨rfl, hB⟩; replace H := H.next hB; clear hB)
        | (go_at_call 20; (with_reducible refine (QC.out _).mono ?_); rintro e w2 ⟨rfl, hB⟩; replace H := H.next hB; clear hB)
        | (go_at_call 17; (with_reducible refine (QJ.out _).mono ?_; rintro e w2 ⟨rfl, hB⟩; replace H := H.next hB; clear hB))
        | (refine wpList_mnew rfl _ rfl H _ HZ.out ?_; clear H; intro _ w1 _ H))
      go_ret2
      exact ⟨rfl, H.toBelow⟩
  · have d : decide (8192 ≤ a) = true := by simpa using h
    have E : chrV m s a = 0 ∧ okC m s a = false := by unfold chrV okC; rw [hb, show decide (a < 8192) = false by simpa using h]; exact ⟨rfl, rfl⟩
    rw [E.1, E.2]
    clear E hb ok hs
    have H := Mem.start w
    unfold errN
    go_enter Try.func11, Try.ntmps11
    go_wp2_with (first
      | go_skip | (refine wpList_mboxA rfl _ _ rfl H _ rfl ?_; clear H; intro _ w1 _ H) | (refine gate_load _ _ rfl ?_; first | (refine wpList_mloadA rfl _ _ rfl _ rfl 0 H _ rfl (by decide +kernel) (by kernel_rfl) ?_) | (refine wpList_mload1 rfl _ _ rfl _ _ rfl 0 H _ (.int _ _) rfl rfl (by decide +kernel) ?_) | (refine wpList_mload1 rfl _ _ rfl _ _ rfl 0 H _ (.bool _) rfl rfl (by decide +kernel) ?_) | (refine wpList_mload1 rfl _ _ rfl _ _ rfl 0 H _ (.pointer _) rfl rfl (by decide +kernel) ?_) | (refine wpList_mload1 rfl _ _ rfl _ _ rfl 0 H _ (.string _) rfl rfl (by decide +kernel) ?_) | (refine wpList_mload1 rfl _ _ rfl _ _ rfl 0 H _ (.slice _ _ _) rfl rfl (by decide +kernel) ?_)) | (refine gate_store _ _ _ rfl ?_; (first | (refine wpList_mstoreA rfl _ _ _ rfl rfl _ rfl 0 H _ _ rfl rfl (by kernel_rfl) (by kernel_rfl) (by kernel_rfl) ?_) | (refine wpList_mstore rfl _ _ _ rfl rfl _ _ rfl 0 H _ _ rfl (.int _ _) rfl (by kernel_rfl) (of_decide_eq_true (by kernel_rfl)) (by kernel_rfl) rfl ?_) | (refine wpList_mstore rfl _ _ _ rfl rfl _ _ rfl 0 H _ _ rfl (.bool _) rfl (by kernel_rfl) (of_decide_eq_true (by kernel_rfl)) (by kernel_rfl) rfl ?_) | (refine wpList_mstore rfl _ _ _ rfl rfl _ _ rfl 0 H _ _ rfl (.pointer _) rfl (by kernel_rfl) (of_decide_eq_true (by kernel_rfl)) (by kernel_rfl) rfl ?_) | (refine wpList_mstore rfl _ _ _ rfl rfl _ _ rfl 0 H _ _ rfl (.string _) rfl (by kernel_rfl) (of_decide_eq_true (by kernel_rfl)) (by kernel_rfl) rfl ?_) | (refine wpList_mstore rfl _ _ _ rfl rfl _ _ rfl 0 H _ _ rfl (.slice _ _ _) rfl (by kernel_rfl) (of_decide_eq_true (by kernel_rfl)) (by kernel_rfl) rfl ?_)); clear H; intro w1 H; simp only [List.set_cons_zero, List.set_cons_succ, b8_all] at H)
      | (go_at_call 15; (with_reducible refine (QN.out _).mono ?_); rintro e w2 ⟨rfl, hB⟩; replace H := H.next hB; clear hB))
    go_ret2
    exact ⟨rfl, H.toBelow⟩
end Go.Proofs.Ytodmhmkbiafahaa
