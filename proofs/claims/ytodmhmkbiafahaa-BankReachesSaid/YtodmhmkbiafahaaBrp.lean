/-
  The document's Prg of banks: a place in the program's memory. Over this seat's translation; octets are from 0 to 255, addresses from 0 to 65535.
-/
import Derived.Test.YtodmhmkbiafahaaBrf
import Derived.Test.YtodmhmkbiafahaaBpc
namespace Go.Proofs.Ytodmhmkbiafahaa
open Go.RowKit
set_option linter.unusedSimpArgs false
set_option linter.unusedVariables false
set_option maxRecDepth 20000

theorem s16 {s : Int} (h : prgOk s = true) : (s / 8192 - 1) / 2 = s / 16384 - 1 := by
  rcases prgOk_iff.1 h with rfl | rfl | rfl | rfl | rfl | rfl <;> decide
theorem rem16 {x y : Int} (h : 0 ≤ x) : Int.tmod x y = x % y := Int.tmod_eq_emod_of_nonneg h
set_option maxHeartbeats 2000000 in
theorem rprg_no (m : Mp) (s a : Int) (w : World) (a0 : 0 ≤ a) (a1 : a < 65536) (h : okP m s a = false) : Calls Try.prog 10 #[mpV m, .int .i64 s, .int .u16 a] w fun e w' => e = .returned (.tuple #[.int .i64 0, .int .i64 1]) ∧ Below w.heap.size w w' := by
  have KM := fun wr => rmay6_ct m wr
  have KS := fun wr => rsizp_ct s wr
  have H := Mem.start w
  unfold okP at h
  unfold mpV at *
  cases hm : mayB m
  · rw [hm] at KM
    have QM := Lib.hid KM
    have QS := Lib.hid KS
    clear h hm KM KS
    go_enter Try.func10, Try.ntmps10
    go_wp2_with (first
      | (go_at_call 18; (with_reducible refine (QM.out _).mono ?_); rintro e w2 ⟨rfl, hB⟩; replace H := H.next hB; clear hB)
      | (go_at_call 14; (with_reducible refine (QS.out _).mono ?_); rintro e w2 ⟨rfl, rfl⟩)
      | go_skip | (refine wpList_mboxA rfl _ _ rfl H _ rfl ?_; clear H; intro _ w1 _ H) | (refine gate_load _ _ rfl ?_; first | (refine wpList_mloadA rfl _ _ rfl _ rfl 0 H _ rfl (by decide +kernel) (by kernel_rfl) ?_) | (refine wpList_mload1 rfl _ _ rfl _ _ rfl 0 H _ (.int _ _) rfl rfl (by decide +kernel) ?_) | (refine wpList_mload1 rfl _ _ rfl _ _ rfl 0 H _ (.bool _) rfl rfl (by decide +kernel) ?_) | (refine wpList_mload1 rfl _ _ rfl _ _ rfl 0 H _ (.pointer _) rfl rfl (by decide +kernel) ?_) | (refine wpList_mload1 rfl _ _ rfl _ _ rfl 0 H _ (.string _) rfl rfl (by decide +kernel) ?_) | (refine wpList_mload1 rfl _ _ rfl _ _ rfl 0 H _ (.slice _ _ _) rfl rfl (by decide +kernel) ?_)) | (refine gate_store _ _ _ rfl ?_; (first | (refine wpList_mstoreA rfl _ _ _ rfl rfl _ rfl 0 H _ _ rfl rfl (by kernel_rfl) (by kernel_rfl) (by kernel_rfl) ?_) | (refine wpList_mstore rfl _ _ _ rfl rfl _ _ rfl 0 H _ _ rfl (.int _ _) rfl (by kernel_rfl) (of_decide_eq_true (by kernel_rfl)) (by kernel_rfl) rfl ?_) | (refine wpList_mstore rfl _ _ _ rfl rfl _ _ rfl 0 H _ _ rfl (.bool _) rfl (by kernel_rfl) (of_decide_eq_true (by kernel_rfl)) (by kernel_rfl) rfl ?_) | (refine wpList_mstore rfl _ _ _ rfl rfl _ _ rfl 0 H _ _ rfl (.pointer _) rfl (by kernel_rfl) (of_decide_eq_true (by kernel_rfl)) (by kernel_rfl) rfl ?_) | (refine wpList_mstore rfl _ _ _ rfl rfl _ _ rfl 0 H _ _ rfl (.string _) rfl (by kernel_rfl) (of_decide_eq_true (by kernel_rfl)) (by kernel_rfl) rfl ?_) | (refine wpList_mstore rfl _ _ _ rfl rfl _ _ rfl 0 H _ _ rfl (.slice _ _ _) rfl (by kernel_rfl) (of_decide_eq_true (by kernel_rfl)) (by kernel_rfl) rfl ?_)); clear H; intro w1 H; simp only [List.set_cons_zero, List.set_cons_succ] at H))
    go_ret2
    exact ⟨rfl, H.toBelow⟩
  cases hs : prgOk s
  · rw [hm] at KM
    rw [hs] at KS
    have QM := Lib.hid KM
    have QS := Lib.hid KS
    clear h hm hs KM KS
    go_enter Try.func10, Try.ntmps10
    go_wp2_with (first
      | (go_at_call 18; (with_reducible refine (QM.out _).mono ?_); rintro e w2 ⟨rfl, hB⟩; replace H := H.next hB; clear hB)
      | (go_at_call 14; (with_reducible refine (QS.out _).mono ?_); rintro e w2 ⟨rfl, rfl⟩)
      | go_skip | (refine wpList_mboxA rfl _ _ rfl H _ rfl ?_; clear H; intro _ w1 _ H) | (refine gate_load _ _ rfl ?_; first | (refine wpList_mloadA rfl _ _ rfl _ rfl 0 H _ rfl (by decide +kernel) (by kernel_rfl) ?_) | (refine wpList_mload1 rfl _ _ rfl _ _ rfl 0 H _ (.int _ _) rfl rfl (by decide +kernel) ?_) | (refine wpList_mload1 rfl _ _ rfl _ _ rfl 0 H _ (.bool _) rfl rfl (by decide +kernel) ?_) | (refine wpList_mload1 rfl _ _ rfl _ _ rfl 0 H _ (.pointer _) rfl rfl (by decide +kernel) ?_) | (refine wpList_mload1 rfl _ _ rfl _ _ rfl 0 H _ (.string _) rfl rfl (by decide +kernel) ?_) | (refine wpList_mload1 rfl _ _ rfl _ _ rfl 0 H _ (.slice _ _ _) rfl rfl (by decide +kernel) ?_)) | (refine gate_store _ _ _ rfl ?_; (first | (refine wpList_mstoreA rfl _ _ _ rfl rfl _ rfl 0 H _ _ rfl rfl (by kernel_rfl) (by kernel_rfl) (by kernel_rfl) ?_) | (refine wpList_mstore rfl _ _ _ rfl rfl _ _ rfl 0 H _ _ rfl (.int _ _) rfl (by kernel_rfl) (of_decide_eq_true (by kernel_rfl)) (by kernel_rfl) rfl ?_) | (refine wpList_mstore rfl _ _ _ rfl rfl _ _ rfl 0 H _ _ rfl (.bool _) rfl (by kernel_rfl) (of_decide_eq_true (by kernel_rfl)) (by kernel_rfl) rfl ?_) | (refine wpList_mstore rfl _ _ _ rfl rfl _ _ rfl 0 H _ _ rfl (.pointer _) rfl (by kernel_rfl) (of_decide_eq_true (by kernel_rfl)) (by kernel_rfl) rfl ?_) | (refine wpList_mstore rfl _ _ _ rfl rfl _ _ rfl 0 H _ _ rfl (.string _) rfl (by kernel_rfl) (of_decide_eq_true (by kernel_rfl)) (by kernel_rfl) rfl ?_) | (refine wpList_mstore rfl _ _ _ rfl rfl _ _ rfl 0 H _ _ rfl (.slice _ _ _) rfl (by kernel_rfl) (of_decide_eq_true (by kernel_rfl)) (by kernel_rfl) rfl ?_)); clear H; intro w1 H; simp only [List.set_cons_zero, List.set_cons_succ] at H))
    go_ret2
    exact ⟨rfl, H.toBelow⟩
  rw [hm] at KM
  rw [hs] at KS
  have QM := Lib.hid KM
  have QS := Lib.hid KS
  rw [hm, hs] at h
  have d : decide (a < 32768) = true := by simpa using h
  clear h hm hs KM KS
  go_enter Try.func10, Try.ntmps10
  go_wp2_with (first
    | (go_at_call 18; (with_reducible refine (QM.out _).mono ?_); rintro e w2 ⟨rfl, hB⟩; replace H := H.next hB; clear hB)
    | (go_at_call 14; (with_reducible refine (QS.out _).mono ?_); rintro e w2 ⟨rfl, rfl⟩)
    | go_skip | (refine wpList_mboxA rfl _ _ rfl H _ rfl ?_; clear H; intro _ w1 _ H) | (refine gate_load _ _ rfl ?_; first | (refine wpList_mloadA rfl _ _ rfl _ rfl 0 H _ rfl (by decide +kernel) (by kernel_rfl) ?_) | (refine wpList_mload1 rfl _ _ rfl _ _ rfl 0 H _ (.int _ _) rfl rfl (by decide +kernel) ?_) | (refine wpList_mload1 rfl _ _ rfl _ _ rfl 0 H _ (.bool _) rfl rfl (by decide +kernel) ?_) | (refine wpList_mload1 rfl _ _ rfl _ _ rfl 0 H _ (.pointer _) rfl rfl (by decide +kernel) ?_) | (refine wpList_mload1 rfl _ _ rfl _ _ rfl 0 H _ (.string _) rfl rfl (by decide +kernel) ?_) | (refine wpList_mload1 rfl _ _ rfl _ _ rfl 0 H _ (.slice _ _ _) rfl rfl (by decide +kernel) ?_)) | (refine gate_store _ _ _ rfl ?_; (first | (refine wpList_mstoreA rfl _ _ _ rfl rfl _ rfl 0 H _ _ rfl rfl (by kernel_rfl) (by kernel_rfl) (by kernel_rfl) ?_) | (refine wpList_mstore rfl _ _ _ rfl rfl _ _ rfl 0 H _ _ rfl (.int _ _) rfl (by kernel_rfl) (of_decide_eq_true (by kernel_rfl)) (by kernel_rfl) rfl ?_) | (refine wpList_mstore rfl _ _ _ rfl rfl _ _ rfl 0 H _ _ rfl (.bool _) rfl (by kernel_rfl) (of_decide_eq_true (by kernel_rfl)) (by kernel_rfl) rfl ?_) | (refine wpList_mstore rfl _ _ _ rfl rfl _ _ rfl 0 H _ _ rfl (.pointer _) rfl (by kernel_rfl) (of_decide_eq_true (by kernel_rfl)) (by kernel_rfl) rfl ?_) | (refine wpList_mstore rfl _ _ _ rfl rfl _ _ rfl 0 H _ _ rfl (.string _) rfl (by kernel_rfl) (of_decide_eq_true (by kernel_rfl)) (by kernel_rfl) rfl ?_) | (refine wpList_mstore rfl _ _ _ rfl rfl _ _ rfl 0 H _ _ rfl (.slice _ _ _) rfl (by kernel_rfl) (of_decide_eq_true (by kernel_rfl)) (by kernel_rfl) rfl ?_)); clear H; intro w1 H; simp only [List.set_cons_zero, List.set_cons_succ] at H))
  go_ret2
  exact ⟨rfl, H.toBelow⟩
set_option maxHeartbeats 2000000 in
theorem rprg_10 (m : Mp) (ok : m.oct) (s a : Int) (w : World) (a0 : 32768 ≤ a) (a1 : a < 65536) (hm : mayB m = true) (hs : prgOk s = true) (hk : m.k = 1) (hc : m.cl / 4 % 4 = 0) : Calls Try.prog 10 #[mpV m, .int .i64 s, .int .u16 a] w fun e w' => e = .returned (.tuple #[.int .i64 (inP m s a), .int .i64 0]) ∧ Below w.heap.size w w' := by
  obtain ⟨osh, oct, ocl, oc0, oc1, opr, obk, ose, omi, or0, or1, or2, or3, or4, or5, or6, or7, olt, ocn⟩ := ok
  obtain ⟨z0, z1⟩ := prg_sizes hs
  have E : plR s (m.pr % 16 / 2) 32768 a = inP m s a := by
    unfold inP pBanks pOne
    rw [if_pos hk, if_neg (by omega), if_neg (by omega)]
    exact pl_whole _ hs a0 a1
  rw [← E]
  have KM := fun wr => rmay6_ct m wr
  have KS := fun wr => rsizp_ct s wr
  rw [hm] at KM
  rw [hs] at KS
  have QM := Lib.hid KM
  have QS := Lib.hid KS
  have QP := Lib.hid (fun wr => rplace_ct s (m.pr % 16 / 2) 32768 a wr (by omega) (by omega) (by omega) (by omega) (by omega) (by omega) (by omega) (by omega))
  have d : decide (a < 32768) = false := by simpa using a0
  have ts1 := tdivn (x := s) (y := 16384) (by omega)
  have ts2 := tdivn (x := s) (y := 8192) (by omega)
  have x0 := opr.1
  have x1 := opr.2
  have y0 := ocl.1
  have y1 := ocl.2
  have u1 := rem16 (x := m.pr) (y := 16) x0
  have u2 := tdivn (x := m.cl) (y := 4) y0
  have u3 := rem16 (x := m.cl / 4) (y := 4) (by omega)
  rw [hc] at u3
  have u4 := tdivn (x := m.pr % 16) (y := 2) (by omega)
  have H := Mem.start w
  unfold mpV at *
  have e1 : (m.k == 1) = true := by rw [hk]; rfl
  have e2 : (m.k == 2) = false := by rw [hk]; rfl
  have e4 : (m.k == 4) = false := by rw [hk]; rfl
  have e7 : (m.k == 7) = false := by rw [hk]; rfl
  clear E KM KS hm hs
  go_enter Try.func10, Try.ntmps10
  go_wp2_with (first
    | (go_at_call 18; (with_reducible refine (QM.out _).mono ?_); rintro e w2 ⟨rfl, hB⟩; replace H := H.next hB; clear hB)
    | (go_at_call 14; (with_reducible refine (QS.out _).mono ?_); rintro e w2 ⟨rfl, rfl⟩)
    | (go_at_call 19; (with_reducible refine (QP.out _).mono ?_); rintro e w2 ⟨rfl, hB⟩; replace H := H.next hB; clear hB)
    | go_skip | (refine wpList_mboxA rfl _ _ rfl H _ rfl ?_; clear H; intro _ w1 _ H) | (refine gate_load _ _ rfl ?_; first | (refine wpList_mloadA rfl _ _ rfl _ rfl 0 H _ rfl (by decide +kernel) (by kernel_rfl) ?_) | (refine wpList_mload1 rfl _ _ rfl _ _ rfl 0 H _ (.int _ _) rfl rfl (by decide +kernel) ?_) | (refine wpList_mload1 rfl _ _ rfl _ _ rfl 0 H _ (.bool _) rfl rfl (by decide +kernel) ?_) | (refine wpList_mload1 rfl _ _ rfl _ _ rfl 0 H _ (.pointer _) rfl rfl (by decide +kernel) ?_) | (refine wpList_mload1 rfl _ _ rfl _ _ rfl 0 H _ (.string _) rfl rfl (by decide +kernel) ?_) | (refine wpList_mload1 rfl _ _ rfl _ _ rfl 0 H _ (.slice _ _ _) rfl rfl (by decide +kernel) ?_)) | (refine gate_store _ _ _ rfl ?_; (first | (refine wpList_mstoreA rfl _ _ _ rfl rfl _ rfl 0 H _ _ rfl rfl (by kernel_rfl) (by kernel_rfl) (by kernel_rfl) ?_) | (refine wpList_mstore rfl _ _ _ rfl rfl _ _ rfl 0 H _ _ rfl (.int _ _) rfl (by kernel_rfl) (of_decide_eq_true (by kernel_rfl)) (by kernel_rfl) rfl ?_) | (refine wpList_mstore rfl _ _ _ rfl rfl _ _ rfl 0 H _ _ rfl (.bool _) rfl (by kernel_rfl) (of_decide_eq_true (by kernel_rfl)) (by kernel_rfl) rfl ?_) | (refine wpList_mstore rfl _ _ _ rfl rfl _ _ rfl 0 H _ _ rfl (.pointer _) rfl (by kernel_rfl) (of_decide_eq_true (by kernel_rfl)) (by kernel_rfl) rfl ?_) | (refine wpList_mstore rfl _ _ _ rfl rfl _ _ rfl 0 H _ _ rfl (.string _) rfl (by kernel_rfl) (of_decide_eq_true (by kernel_rfl)) (by kernel_rfl) rfl ?_) | (refine wpList_mstore rfl _ _ _ rfl rfl _ _ rfl 0 H _ _ rfl (.slice _ _ _) rfl (by kernel_rfl) (of_decide_eq_true (by kernel_rfl)) (by kernel_rfl) rfl ?_)); clear H; intro w1 H; simp only [List.set_cons_zero, List.set_cons_succ] at H))
  go_ret2
  exact ⟨rfl, H.toBelow⟩
set_option maxHeartbeats 2000000 in
theorem rprg_11 (m : Mp) (ok : m.oct) (s a : Int) (w : World) (a0 : 32768 ≤ a) (a1 : a < 65536) (hm : mayB m = true) (hs : prgOk s = true) (hk : m.k = 1) (hc : m.cl / 4 % 4 = 1) : Calls Try.prog 10 #[mpV m, .int .i64 s, .int .u16 a] w fun e w' => e = .returned (.tuple #[.int .i64 (inP m s a), .int .i64 0]) ∧ Below w.heap.size w w' := by
  obtain ⟨osh, oct, ocl, oc0, oc1, opr, obk, ose, omi, or0, or1, or2, or3, or4, or5, or6, or7, olt, ocn⟩ := ok
  obtain ⟨z0, z1⟩ := prg_sizes hs
  have E : plR s (m.pr % 16 / 2) 32768 a = inP m s a := by
    unfold inP pBanks pOne
    rw [if_pos hk, if_neg (by omega), if_neg (by omega)]
    exact pl_whole _ hs a0 a1
  rw [← E]
  have KM := fun wr => rmay6_ct m wr
  have KS := fun wr => rsizp_ct s wr
  rw [hm] at KM
  rw [hs] at KS
  have QM := Lib.hid KM
  have QS := Lib.hid KS
  have QP := Lib.hid (fun wr => rplace_ct s (m.pr % 16 / 2) 32768 a wr (by omega) (by omega) (by omega) (by omega) (by omega) (by omega) (by omega) (by omega))
  have d : decide (a < 32768) = false := by simpa using a0
  have ts1 := tdivn (x := s) (y := 16384) (by omega)
  have ts2 := tdivn (x := s) (y := 8192) (by omega)
  have x0 := opr.1
  have x1 := opr.2
  have y0 := ocl.1
  have y1 := ocl.2
  have u1 := rem16 (x := m.pr) (y := 16) x0
  have u2 := tdivn (x := m.cl) (y := 4) y0
  have u3 := rem16 (x := m.cl / 4) (y := 4) (by omega)
  rw [hc] at u3
  have u4 := tdivn (x := m.pr % 16) (y := 2) (by omega)
  have H := Mem.start w
  unfold mpV at *
  have e1 : (m.k == 1) = true := by rw [hk]; rfl
  have e2 : (m.k == 2) = false := by rw [hk]; rfl
  have e4 : (m.k == 4) = false := by rw [hk]; rfl
  have e7 : (m.k == 7) = false := by rw [hk]; rfl
  clear E KM KS hm hs
  go_enter Try.func10, Try.ntmps10
  go_wp2_with (first
    | (go_at_call 18; (with_reducible refine (QM.out _).mono ?_); rintro e w2 ⟨rfl, hB⟩; replace H := H.next hB; clear hB)
    | (go_at_call 14; (with_reducible refine (QS.out _).mono ?_); rintro e w2 ⟨rfl, rfl⟩)
    | (go_at_call 19; (with_reducible refine (QP.out _).mono ?_); rintro e w2 ⟨rfl, hB⟩; replace H := H.next hB; clear hB)
    | go_skip | (refine wpList_mboxA rfl _ _ rfl H _ rfl ?_; clear H; intro _ w1 _ H) | (refine gate_load _ _ rfl ?_; first | (refine wpList_mloadA rfl _ _ rfl _ rfl 0 H _ rfl (by decide +kernel) (by kernel_rfl) ?_) | (refine wpList_mload1 rfl _ _ rfl _ _ rfl 0 H _ (.int _ _) rfl rfl (by decide +kernel) ?_) | (refine wpList_mload1 rfl _ _ rfl _ _ rfl 0 H _ (.bool _) rfl rfl (by decide +kernel) ?_) | (refine wpList_mload1 rfl _ _ rfl _ _ rfl 0 H _ (.pointer _) rfl rfl (by decide +kernel) ?_) | (refine wpList_mload1 rfl _ _ rfl _ _ rfl 0 H _ (.string _) rfl rfl (by decide +kernel) ?_) | (refine wpList_mload1 rfl _ _ rfl _ _ rfl 0 H _ (.slice _ _ _) rfl rfl (by decide +kernel) ?_)) | (refine gate_store _ _ _ rfl ?_; (first | (refine wpList_mstoreA rfl _ _ _ rfl rfl _ rfl 0 H _ _ rfl rfl (by kernel_rfl) (by kernel_rfl) (by kernel_rfl) ?_) | (refine wpList_mstore rfl _ _ _ rfl rfl _ _ rfl 0 H _ _ rfl (.int _ _) rfl (by kernel_rfl) (of_decide_eq_true (by kernel_rfl)) (by kernel_rfl) rfl ?_) | (refine wpList_mstore rfl _ _ _ rfl rfl _ _ rfl 0 H _ _ rfl (.bool _) rfl (by kernel_rfl) (of_decide_eq_true (by kernel_rfl)) (by kernel_rfl) rfl ?_) | (refine wpList_mstore rfl _ _ _ rfl rfl _ _ rfl 0 H _ _ rfl (.pointer _) rfl (by kernel_rfl) (of_decide_eq_true (by kernel_rfl)) (by kernel_rfl) rfl ?_) | (refine wpList_mstore rfl _ _ _ rfl rfl _ _ rfl 0 H _ _ rfl (.string _) rfl (by kernel_rfl) (of_decide_eq_true (by kernel_rfl)) (by kernel_rfl) rfl ?_) | (refine wpList_mstore rfl _ _ _ rfl rfl _ _ rfl 0 H _ _ rfl (.slice _ _ _) rfl (by kernel_rfl) (of_decide_eq_true (by kernel_rfl)) (by kernel_rfl) rfl ?_)); clear H; intro w1 H; simp only [List.set_cons_zero, List.set_cons_succ] at H))
  go_ret2
  exact ⟨rfl, H.toBelow⟩
set_option maxHeartbeats 2000000 in
theorem rprg_12l (m : Mp) (ok : m.oct) (s a : Int) (w : World) (a0 : 32768 ≤ a) (a1 : a < 65536) (hm : mayB m = true) (hs : prgOk s = true) (hk : m.k = 1) (hc : m.cl / 4 % 4 = 2) (hq : a < 49152) : Calls Try.prog 10 #[mpV m, .int .i64 s, .int .u16 a] w fun e w' => e = .returned (.tuple #[.int .i64 (inP m s a), .int .i64 0]) ∧ Below w.heap.size w w' := by
  obtain ⟨osh, oct, ocl, oc0, oc1, opr, obk, ose, omi, or0, or1, or2, or3, or4, or5, or6, or7, olt, ocn⟩ := ok
  obtain ⟨z0, z1⟩ := prg_sizes hs
  have E : plR s (0) 16384 a = inP m s a := by
    unfold inP pBanks pOne
    rw [if_pos hk, if_pos hc]
    exact pl_low 0 (m.pr % 16) hs a0 hq
  rw [← E]
  have KM := fun wr => rmay6_ct m wr
  have KS := fun wr => rsizp_ct s wr
  rw [hm] at KM
  rw [hs] at KS
  have QM := Lib.hid KM
  have QS := Lib.hid KS
  have QP := Lib.hid (fun wr => rplace_ct s (0) 16384 a wr (by omega) (by omega) (by omega) (by omega) (by omega) (by omega) (by omega) (by omega))
  have d : decide (a < 32768) = false := by simpa using a0
  have ts1 := tdivn (x := s) (y := 16384) (by omega)
  have ts2 := tdivn (x := s) (y := 8192) (by omega)
  have x0 := opr.1
  have x1 := opr.2
  have y0 := ocl.1
  have y1 := ocl.2
  have u1 := rem16 (x := m.pr) (y := 16) x0
  have u2 := tdivn (x := m.cl) (y := 4) y0
  have u3 := rem16 (x := m.cl / 4) (y := 4) (by omega)
  rw [hc] at u3
  have u4 := tdivn (x := m.pr % 16) (y := 2) (by omega)
  have dq : decide (a < 49152) = true := by simpa using hq
  have dr : decide (49152 ≤ a) = false := by simpa using hq
  have H := Mem.start w
  unfold mpV at *
  have e1 : (m.k == 1) = true := by rw [hk]; rfl
  have e2 : (m.k == 2) = false := by rw [hk]; rfl
  have e4 : (m.k == 4) = false := by rw [hk]; rfl
  have e7 : (m.k == 7) = false := by rw [hk]; rfl
  clear E KM KS hm hs
  go_enter Try.func10, Try.ntmps10
  go_wp2_with (first
    | (go_at_call 18; (with_reducible refine (QM.out _).mono ?_); rintro e w2 ⟨rfl, hB⟩; replace H := H.next hB; clear hB)
    | (go_at_call 14; (with_reducible refine (QS.out _).mono ?_); rintro e w2 ⟨rfl, rfl⟩)
    | (go_at_call 19; (with_reducible refine (QP.out _).mono ?_); rintro e w2 ⟨rfl, hB⟩; replace H := H.next hB; clear hB)
    | go_skip | (refine wpList_mboxA rfl _ _ rfl H _ rfl ?_; clear H; intro _ w1 _ H) | (refine gate_load _ _ rfl ?_; first | (refine wpList_mloadA rfl _ _ rfl _ rfl 0 H _ rfl (by decide +kernel) (by kernel_rfl) ?_) | (refine wpList_mload1 rfl _ _ rfl _ _ rfl 0 H _ (.int _ _) rfl rfl (by decide +kernel) ?_) | (refine wpList_mload1 rfl _ _ rfl _ _ rfl 0 H _ (.bool _) rfl rfl (by decide +kernel) ?_) | (refine wpList_mload1 rfl _ _ rfl _ _ rfl 0 H _ (.pointer _) rfl rfl (by decide +kernel) ?_) | (refine wpList_mload1 rfl _ _ rfl _ _ rfl 0 H _ (.string _) rfl rfl (by decide +kernel) ?_) | (refine wpList_mload1 rfl _ _ rfl _ _ rfl 0 H _ (.slice _ _ _) rfl rfl (by decide +kernel) ?_)) | (refine gate_store _ _ _ rfl ?_; (first | (refine wpList_mstoreA rfl _ _ _ rfl rfl _ rfl 0 H _ _ rfl rfl (by kernel_rfl) (by kernel_rfl) (by kernel_rfl) ?_) | (refine wpList_mstore rfl _ _ _ rfl rfl _ _ rfl 0 H _ _ rfl (.int _ _) rfl (by kernel_rfl) (of_decide_eq_true (by kernel_rfl)) (by kernel_rfl) rfl ?_) | (refine wpList_mstore rfl _ _ _ rfl rfl _ _ rfl 0 H _ _ rfl (.bool _) rfl (by kernel_rfl) (of_decide_eq_true (by kernel_rfl)) (by kernel_rfl) rfl ?_) | (refine wpList_mstore rfl _ _ _ rfl rfl _ _ rfl 0 H _ _ rfl (.pointer _) rfl (by kernel_rfl) (of_decide_eq_true (by kernel_rfl)) (by kernel_rfl) rfl ?_) | (refine wpList_mstore rfl _ _ _ rfl rfl _ _ rfl 0 H _ _ rfl (.string _) rfl (by kernel_rfl) (of_decide_eq_true (by kernel_rfl)) (by kernel_rfl) rfl ?_) | (refine wpList_mstore rfl _ _ _ rfl rfl _ _ rfl 0 H _ _ rfl (.slice _ _ _) rfl (by kernel_rfl) (of_decide_eq_true (by kernel_rfl)) (by kernel_rfl) rfl ?_)); clear H; intro w1 H; simp only [List.set_cons_zero, List.set_cons_succ] at H))
  go_ret2
  exact ⟨rfl, H.toBelow⟩
set_option maxHeartbeats 2000000 in
theorem rprg_12h (m : Mp) (ok : m.oct) (s a : Int) (w : World) (a0 : 32768 ≤ a) (a1 : a < 65536) (hm : mayB m = true) (hs : prgOk s = true) (hk : m.k = 1) (hc : m.cl / 4 % 4 = 2) (hq : 49152 ≤ a) : Calls Try.prog 10 #[mpV m, .int .i64 s, .int .u16 a] w fun e w' => e = .returned (.tuple #[.int .i64 (inP m s a), .int .i64 0]) ∧ Below w.heap.size w w' := by
  obtain ⟨osh, oct, ocl, oc0, oc1, opr, obk, ose, omi, or0, or1, or2, or3, or4, or5, or6, or7, olt, ocn⟩ := ok
  obtain ⟨z0, z1⟩ := prg_sizes hs
  have E : plR s (m.pr % 16) 16384 a = inP m s a := by
    unfold inP pBanks pOne
    rw [if_pos hk, if_pos hc]
    exact pl_high 0 (m.pr % 16) hs hq a1
  rw [← E]
  have KM := fun wr => rmay6_ct m wr
  have KS := fun wr => rsizp_ct s wr
  rw [hm] at KM
  rw [hs] at KS
  have QM := Lib.hid KM
  have QS := Lib.hid KS
  have QP := Lib.hid (fun wr => rplace_ct s (m.pr % 16) 16384 a wr (by omega) (by omega) (by omega) (by omega) (by omega) (by omega) (by omega) (by omega))
  have d : decide (a < 32768) = false := by simpa using a0
  have ts1 := tdivn (x := s) (y := 16384) (by omega)
  have ts2 := tdivn (x := s) (y := 8192) (by omega)
  have x0 := opr.1
  have x1 := opr.2
  have y0 := ocl.1
  have y1 := ocl.2
  have u1 := rem16 (x := m.pr) (y := 16) x0
  have u2 := tdivn (x := m.cl) (y := 4) y0
  have u3 := rem16 (x := m.cl / 4) (y := 4) (by omega)
  rw [hc] at u3
  have u4 := tdivn (x := m.pr % 16) (y := 2) (by omega)
  have dq : decide (a < 49152) = false := by simpa using hq
  have dr : decide (49152 ≤ a) = true := by simpa using hq
  have H := Mem.start w
  unfold mpV at *
  have e1 : (m.k == 1) = true := by rw [hk]; rfl
  have e2 : (m.k == 2) = false := by rw [hk]; rfl
  have e4 : (m.k == 4) = false := by rw [hk]; rfl
  have e7 : (m.k == 7) = false := by rw [hk]; rfl
  clear E KM KS hm hs
  go_enter Try.func10, Try.ntmps10
  go_wp2_with (first
    | (go_at_call 18; (with_reducible refine (QM.out _).mono ?_); rintro e w2 ⟨rfl, hB⟩; replace H := H.next hB; clear hB)
    | (go_at_call 14; (with_reducible refine (QS.out _).mono ?_); rintro e w2 ⟨rfl, rfl⟩)
    | (go_at_call 19; (with_reducible refine (QP.out _).mono ?_); rintro e w2 ⟨rfl, hB⟩; replace H := H.next hB; clear hB)
    | go_skip | (refine wpList_mboxA rfl _ _ rfl H _ rfl ?_; clear H; intro _ w1 _ H) | (refine gate_load _ _ rfl ?_; first | (refine wpList_mloadA rfl _ _ rfl _ rfl 0 H _ rfl (by decide +kernel) (by kernel_rfl) ?_) | (refine wpList_mload1 rfl _ _ rfl _ _ rfl 0 H _ (.int _ _) rfl rfl (by decide +kernel) ?_) | (refine wpList_mload1 rfl _ _ rfl _ _ rfl 0 H _ (.bool _) rfl rfl (by decide +kernel) ?_) | (refine wpList_mload1 rfl _ _ rfl _ _ rfl 0 H _ (.pointer _) rfl rfl (by decide +kernel) ?_) | (refine wpList_mload1 rfl _ _ rfl _ _ rfl 0 H _ (.string _) rfl rfl (by decide +kernel) ?_) | (refine wpList_mload1 rfl _ _ rfl _ _ rfl 0 H _ (.slice _ _ _) rfl rfl (by decide +kernel) ?_)) | (refine gate_store _ _ _ rfl ?_; (first | (refine wpList_mstoreA rfl _ _ _ rfl rfl _ rfl 0 H _ _ rfl rfl (by kernel_rfl) (by kernel_rfl) (by kernel_rfl) ?_) | (refine wpList_mstore rfl _ _ _ rfl rfl _ _ rfl 0 H _ _ rfl (.int _ _) rfl (by kernel_rfl) (of_decide_eq_true (by kernel_rfl)) (by kernel_rfl) rfl ?_) | (refine wpList_mstore rfl _ _ _ rfl rfl _ _ rfl 0 H _ _ rfl (.bool _) rfl (by kernel_rfl) (of_decide_eq_true (by kernel_rfl)) (by kernel_rfl) rfl ?_) | (refine wpList_mstore rfl _ _ _ rfl rfl _ _ rfl 0 H _ _ rfl (.pointer _) rfl (by kernel_rfl) (of_decide_eq_true (by kernel_rfl)) (by kernel_rfl) rfl ?_) | (refine wpList_mstore rfl _ _ _ rfl rfl _ _ rfl 0 H _ _ rfl (.string _) rfl (by kernel_rfl) (of_decide_eq_true (by kernel_rfl)) (by kernel_rfl) rfl ?_) | (refine wpList_mstore rfl _ _ _ rfl rfl _ _ rfl 0 H _ _ rfl (.slice _ _ _) rfl (by kernel_rfl) (of_decide_eq_true (by kernel_rfl)) (by kernel_rfl) rfl ?_)); clear H; intro w1 H; simp only [List.set_cons_zero, List.set_cons_succ] at H))
  go_ret2
  exact ⟨rfl, H.toBelow⟩
set_option maxHeartbeats 2000000 in
theorem rprg_13l (m : Mp) (ok : m.oct) (s a : Int) (w : World) (a0 : 32768 ≤ a) (a1 : a < 65536) (hm : mayB m = true) (hs : prgOk s = true) (hk : m.k = 1) (hc : m.cl / 4 % 4 = 3) (hq : a < 49152) : Calls Try.prog 10 #[mpV m, .int .i64 s, .int .u16 a] w fun e w' => e = .returned (.tuple #[.int .i64 (inP m s a), .int .i64 0]) ∧ Below w.heap.size w w' := by
  obtain ⟨osh, oct, ocl, oc0, oc1, opr, obk, ose, omi, or0, or1, or2, or3, or4, or5, or6, or7, olt, ocn⟩ := ok
  obtain ⟨z0, z1⟩ := prg_sizes hs
  have E : plR s (m.pr % 16) 16384 a = inP m s a := by
    unfold inP pBanks pOne
    rw [if_pos hk, if_neg (by omega), if_pos hc]
    exact pl_low (m.pr % 16) _ hs a0 hq
  rw [← E]
  have KM := fun wr => rmay6_ct m wr
  have KS := fun wr => rsizp_ct s wr
  rw [hm] at KM
  rw [hs] at KS
  have QM := Lib.hid KM
  have QS := Lib.hid KS
  have QP := Lib.hid (fun wr => rplace_ct s (m.pr % 16) 16384 a wr (by omega) (by omega) (by omega) (by omega) (by omega) (by omega) (by omega) (by omega))
  have d : decide (a < 32768) = false := by simpa using a0
  have ts1 := tdivn (x := s) (y := 16384) (by omega)
  have ts2 := tdivn (x := s) (y := 8192) (by omega)
  have x0 := opr.1
  have x1 := opr.2
  have y0 := ocl.1
  have y1 := ocl.2
  have u1 := rem16 (x := m.pr) (y := 16) x0
  have u2 := tdivn (x := m.cl) (y := 4) y0
  have u3 := rem16 (x := m.cl / 4) (y := 4) (by omega)
  rw [hc] at u3
  have u4 := tdivn (x := m.pr % 16) (y := 2) (by omega)
  have dq : decide (a < 49152) = true := by simpa using hq
  have dr : decide (49152 ≤ a) = false := by simpa using hq
  have H := Mem.start w
  unfold mpV at *
  have e1 : (m.k == 1) = true := by rw [hk]; rfl
  have e2 : (m.k == 2) = false := by rw [hk]; rfl
  have e4 : (m.k == 4) = false := by rw [hk]; rfl
  have e7 : (m.k == 7) = false := by rw [hk]; rfl
  clear E KM KS hm hs
  go_enter Try.func10, Try.ntmps10
  go_wp2_with (first
    | (go_at_call 18; (with_reducible refine (QM.out _).mono ?_); rintro e w2 ⟨rfl, hB⟩; replace H := H.next hB; clear hB)
    | (go_at_call 14; (with_reducible refine (QS.out _).mono ?_); rintro e w2 ⟨rfl, rfl⟩)
    | (go_at_call 19; (with_reducible refine (QP.out _).mono ?_); rintro e w2 ⟨rfl, hB⟩; replace H := H.next hB; clear hB)
    | go_skip | (refine wpList_mboxA rfl _ _ rfl H _ rfl ?_; clear H; intro _ w1 _ H) | (refine gate_load _ _ rfl ?_; first | (refine wpList_mloadA rfl _ _ rfl _ rfl 0 H _ rfl (by decide +kernel) (by kernel_rfl) ?_) | (refine wpList_mload1 rfl _ _ rfl _ _ rfl 0 H _ (.int _ _) rfl rfl (by decide +kernel) ?_) | (refine wpList_mload1 rfl _ _ rfl _ _ rfl 0 H _ (.bool _) rfl rfl (by decide +kernel) ?_) | (refine wpList_mload1 rfl _ _ rfl _ _ rfl 0 H _ (.pointer _) rfl rfl (by decide +kernel) ?_) | (refine wpList_mload1 rfl _ _ rfl _ _ rfl 0 H _ (.string _) rfl rfl (by decide +kernel) ?_) | (refine wpList_mload1 rfl _ _ rfl _ _ rfl 0 H _ (.slice _ _ _) rfl rfl (by decide +kernel) ?_)) | (refine gate_store _ _ _ rfl ?_; (first | (refine wpList_mstoreA rfl _ _ _ rfl rfl _ rfl 0 H _ _ rfl rfl (by kernel_rfl) (by kernel_rfl) (by kernel_rfl) ?_) | (refine wpList_mstore rfl _ _ _ rfl rfl _ _ rfl 0 H _ _ rfl (.int _ _) rfl (by kernel_rfl) (of_decide_eq_true (by kernel_rfl)) (by kernel_rfl) rfl ?_) | (refine wpList_mstore rfl _ _ _ rfl rfl _ _ rfl 0 H _ _ rfl (.bool _) rfl (by kernel_rfl) (of_decide_eq_true (by kernel_rfl)) (by kernel_rfl) rfl ?_) | (refine wpList_mstore rfl _ _ _ rfl rfl _ _ rfl 0 H _ _ rfl (.pointer _) rfl (by kernel_rfl) (of_decide_eq_true (by kernel_rfl)) (by kernel_rfl) rfl ?_) | (refine wpList_mstore rfl _ _ _ rfl rfl _ _ rfl 0 H _ _ rfl (.string _) rfl (by kernel_rfl) (of_decide_eq_true (by kernel_rfl)) (by kernel_rfl) rfl ?_) | (refine wpList_mstore rfl _ _ _ rfl rfl _ _ rfl 0 H _ _ rfl (.slice _ _ _) rfl (by kernel_rfl) (of_decide_eq_true (by kernel_rfl)) (by kernel_rfl) rfl ?_)); clear H; intro w1 H; simp only [List.set_cons_zero, List.set_cons_succ] at H))
  go_ret2
  exact ⟨rfl, H.toBelow⟩
set_option maxHeartbeats 2000000 in
theorem rprg_13h (m : Mp) (ok : m.oct) (s a : Int) (w : World) (a0 : 32768 ≤ a) (a1 : a < 65536) (hm : mayB m = true) (hs : prgOk s = true) (hk : m.k = 1) (hc : m.cl / 4 % 4 = 3) (hq : 49152 ≤ a) : Calls Try.prog 10 #[mpV m, .int .i64 s, .int .u16 a] w fun e w' => e = .returned (.tuple #[.int .i64 (inP m s a), .int .i64 0]) ∧ Below w.heap.size w w' := by
  obtain ⟨osh, oct, ocl, oc0, oc1, opr, obk, ose, omi, or0, or1, or2, or3, or4, or5, or6, or7, olt, ocn⟩ := ok
  obtain ⟨z0, z1⟩ := prg_sizes hs
  have E : plR s (s / 16384 - 1) 16384 a = inP m s a := by
    unfold inP pBanks pOne
    rw [if_pos hk, if_neg (by omega), if_pos hc]
    rw [s16 hs]; exact pl_high (m.pr % 16) _ hs hq a1
  rw [← E]
  have KM := fun wr => rmay6_ct m wr
  have KS := fun wr => rsizp_ct s wr
  rw [hm] at KM
  rw [hs] at KS
  have QM := Lib.hid KM
  have QS := Lib.hid KS
  have QP := Lib.hid (fun wr => rplace_ct s (s / 16384 - 1) 16384 a wr (by omega) (by omega) (by omega) (by omega) (by omega) (by omega) (by omega) (by omega))
  have d : decide (a < 32768) = false := by simpa using a0
  have ts1 := tdivn (x := s) (y := 16384) (by omega)
  have ts2 := tdivn (x := s) (y := 8192) (by omega)
  have x0 := opr.1
  have x1 := opr.2
  have y0 := ocl.1
  have y1 := ocl.2
  have u1 := rem16 (x := m.pr) (y := 16) x0
  have u2 := tdivn (x := m.cl) (y := 4) y0
  have u3 := rem16 (x := m.cl / 4) (y := 4) (by omega)
  rw [hc] at u3
  have u4 := tdivn (x := m.pr % 16) (y := 2) (by omega)
  have dq : decide (a < 49152) = false := by simpa using hq
  have dr : decide (49152 ≤ a) = true := by simpa using hq
  have H := Mem.start w
  unfold mpV at *
  have e1 : (m.k == 1) = true := by rw [hk]; rfl
  have e2 : (m.k == 2) = false := by rw [hk]; rfl
  have e4 : (m.k == 4) = false := by rw [hk]; rfl
  have e7 : (m.k == 7) = false := by rw [hk]; rfl
  clear E KM KS hm hs
  go_enter Try.func10, Try.ntmps10
  go_wp2_with (first
    | (go_at_call 18; (with_reducible refine (QM.out _).mono ?_); rintro e w2 ⟨rfl, hB⟩; replace H := H.next hB; clear hB)
    | (go_at_call 14; (with_reducible refine (QS.out _).mono ?_); rintro e w2 ⟨rfl, rfl⟩)
    | (go_at_call 19; (with_reducible refine (QP.out _).mono ?_); rintro e w2 ⟨rfl, hB⟩; replace H := H.next hB; clear hB)
    | go_skip | (refine wpList_mboxA rfl _ _ rfl H _ rfl ?_; clear H; intro _ w1 _ H) | (refine gate_load _ _ rfl ?_; first | (refine wpList_mloadA rfl _ _ rfl _ rfl 0 H _ rfl (by decide +kernel) (by kernel_rfl) ?_) | (refine wpList_mload1 rfl _ _ rfl _ _ rfl 0 H _ (.int _ _) rfl rfl (by decide +kernel) ?_) | (refine wpList_mload1 rfl _ _ rfl _ _ rfl 0 H _ (.bool _) rfl rfl (by decide +kernel) ?_) | (refine wpList_mload1 rfl _ _ rfl _ _ rfl 0 H _ (.pointer _) rfl rfl (by decide +kernel) ?_) | (refine wpList_mload1 rfl _ _ rfl _ _ rfl 0 H _ (.string _) rfl rfl (by decide +kernel) ?_) | (refine wpList_mload1 rfl _ _ rfl _ _ rfl 0 H _ (.slice _ _ _) rfl rfl (by decide +kernel) ?_)) | (refine gate_store _ _ _ rfl ?_; (first | (refine wpList_mstoreA rfl _ _ _ rfl rfl _ rfl 0 H _ _ rfl rfl (by kernel_rfl) (by kernel_rfl) (by kernel_rfl) ?_) | (refine wpList_mstore rfl _ _ _ rfl rfl _ _ rfl 0 H _ _ rfl (.int _ _) rfl (by kernel_rfl) (of_decide_eq_true (by kernel_rfl)) (by kernel_rfl) rfl ?_) | (refine wpList_mstore rfl _ _ _ rfl rfl _ _ rfl 0 H _ _ rfl (.bool _) rfl (by kernel_rfl) (of_decide_eq_true (by kernel_rfl)) (by kernel_rfl) rfl ?_) | (refine wpList_mstore rfl _ _ _ rfl rfl _ _ rfl 0 H _ _ rfl (.pointer _) rfl (by kernel_rfl) (of_decide_eq_true (by kernel_rfl)) (by kernel_rfl) rfl ?_) | (refine wpList_mstore rfl _ _ _ rfl rfl _ _ rfl 0 H _ _ rfl (.string _) rfl (by kernel_rfl) (of_decide_eq_true (by kernel_rfl)) (by kernel_rfl) rfl ?_) | (refine wpList_mstore rfl _ _ _ rfl rfl _ _ rfl 0 H _ _ rfl (.slice _ _ _) rfl (by kernel_rfl) (of_decide_eq_true (by kernel_rfl)) (by kernel_rfl) rfl ?_)); clear H; intro w1 H; simp only [List.set_cons_zero, List.set_cons_succ] at H))
  go_ret2
  exact ⟨rfl, H.toBelow⟩
set_option maxHeartbeats 2000000 in
theorem rprg_2l (m : Mp) (ok : m.oct) (s a : Int) (w : World) (a0 : 32768 ≤ a) (a1 : a < 65536) (hm : mayB m = true) (hs : prgOk s = true) (hk : m.k = 2) (hq : a < 49152) : Calls Try.prog 10 #[mpV m, .int .i64 s, .int .u16 a] w fun e w' => e = .returned (.tuple #[.int .i64 (inP m s a), .int .i64 0]) ∧ Below w.heap.size w w' := by
  obtain ⟨osh, oct, ocl, oc0, oc1, opr, obk, ose, omi, or0, or1, or2, or3, or4, or5, or6, or7, olt, ocn⟩ := ok
  obtain ⟨z0, z1⟩ := prg_sizes hs
  have E : plR s (m.bk) 16384 a = inP m s a := by
    unfold inP pBanks
    rw [if_neg (by omega), if_pos hk]
    exact pl_low m.bk _ hs a0 hq
  rw [← E]
  have KM := fun wr => rmay6_ct m wr
  have KS := fun wr => rsizp_ct s wr
  rw [hm] at KM
  rw [hs] at KS
  have QM := Lib.hid KM
  have QS := Lib.hid KS
  have QP := Lib.hid (fun wr => rplace_ct s (m.bk) 16384 a wr (by omega) (by omega) (by omega) (by omega) (by omega) (by omega) (by omega) (by omega))
  have d : decide (a < 32768) = false := by simpa using a0
  have ts1 := tdivn (x := s) (y := 16384) (by omega)
  have ts2 := tdivn (x := s) (y := 8192) (by omega)
  have x0 := obk.1
  have x1 := obk.2
  have dq : decide (a < 49152) = true := by simpa using hq
  have dr : decide (49152 ≤ a) = false := by simpa using hq
  have H := Mem.start w
  unfold mpV at *
  have e1 : (m.k == 1) = false := by rw [hk]; rfl
  have e2 : (m.k == 2) = true := by rw [hk]; rfl
  have e4 : (m.k == 4) = false := by rw [hk]; rfl
  have e7 : (m.k == 7) = false := by rw [hk]; rfl
  clear E KM KS hm hs
  go_enter Try.func10, Try.ntmps10
  go_wp2_with (first
    | (go_at_call 18; (with_reducible refine (QM.out _).mono ?_); rintro e w2 ⟨rfl, hB⟩; replace H := H.next hB; clear hB)
    | (go_at_call 14; (with_reducible refine (QS.out _).mono ?_); rintro e w2 ⟨rfl, rfl⟩)
    | (go_at_call 19; (with_reducible refine (QP.out _).mono ?_); rintro e w2 ⟨rfl, hB⟩; replace H := H.next hB; clear hB)
    | go_skip | (refine wpList_mboxA rfl _ _ rfl H _ rfl ?_; clear H; intro _ w1 _ H) | (refine gate_load _ _ rfl ?_; first | (refine wpList_mloadA rfl _ _ rfl _ rfl 0 H _ rfl (by decide +kernel) (by kernel_rfl) ?_) | (refine wpList_mload1 rfl _ _ rfl _ _ rfl 0 H _ (.int _ _) rfl rfl (by decide +kernel) ?_) | (refine wpList_mload1 rfl _ _ rfl _ _ rfl 0 H _ (.bool _) rfl rfl (by decide +kernel) ?_) | (refine wpList_mload1 rfl _ _ rfl _ _ rfl 0 H _ (.pointer _) rfl rfl (by decide +kernel) ?_) | (refine wpList_mload1 rfl _ _ rfl _ _ rfl 0 H _ (.string _) rfl rfl (by decide +kernel) ?_) | (refine wpList_mload1 rfl _ _ rfl _ _ rfl 0 H _ (.slice _ _ _) rfl rfl (by decide +kernel) ?_)) | (refine gate_store _ _ _ rfl ?_; (first | (refine wpList_mstoreA rfl _ _ _ rfl rfl _ rfl 0 H _ _ rfl rfl (by kernel_rfl) (by kernel_rfl) (by kernel_rfl) ?_) | (refine wpList_mstore rfl _ _ _ rfl rfl _ _ rfl 0 H _ _ rfl (.int _ _) rfl (by kernel_rfl) (of_decide_eq_true (by kernel_rfl)) (by kernel_rfl) rfl ?_) | (refine wpList_mstore rfl _ _ _ rfl rfl _ _ rfl 0 H _ _ rfl (.bool _) rfl (by kernel_rfl) (of_decide_eq_true (by kernel_rfl)) (by kernel_rfl) rfl ?_) | (refine wpList_mstore rfl _ _ _ rfl rfl _ _ rfl 0 H _ _ rfl (.pointer _) rfl (by kernel_rfl) (of_decide_eq_true (by kernel_rfl)) (by kernel_rfl) rfl ?_) | (refine wpList_mstore rfl _ _ _ rfl rfl _ _ rfl 0 H _ _ rfl (.string _) rfl (by kernel_rfl) (of_decide_eq_true (by kernel_rfl)) (by kernel_rfl) rfl ?_) | (refine wpList_mstore rfl _ _ _ rfl rfl _ _ rfl 0 H _ _ rfl (.slice _ _ _) rfl (by kernel_rfl) (of_decide_eq_true (by kernel_rfl)) (by kernel_rfl) rfl ?_)); clear H; intro w1 H; simp only [List.set_cons_zero, List.set_cons_succ] at H))
  go_ret2
  exact ⟨rfl, H.toBelow⟩
set_option maxHeartbeats 2000000 in
theorem rprg_2h (m : Mp) (ok : m.oct) (s a : Int) (w : World) (a0 : 32768 ≤ a) (a1 : a < 65536) (hm : mayB m = true) (hs : prgOk s = true) (hk : m.k = 2) (hq : 49152 ≤ a) : Calls Try.prog 10 #[mpV m, .int .i64 s, .int .u16 a] w fun e w' => e = .returned (.tuple #[.int .i64 (inP m s a), .int .i64 0]) ∧ Below w.heap.size w w' := by
  obtain ⟨osh, oct, ocl, oc0, oc1, opr, obk, ose, omi, or0, or1, or2, or3, or4, or5, or6, or7, olt, ocn⟩ := ok
  obtain ⟨z0, z1⟩ := prg_sizes hs
  have E : plR s (s / 16384 - 1) 16384 a = inP m s a := by
    unfold inP pBanks
    rw [if_neg (by omega), if_pos hk]
    rw [s16 hs]; exact pl_high m.bk _ hs hq a1
  rw [← E]
  have KM := fun wr => rmay6_ct m wr
  have KS := fun wr => rsizp_ct s wr
  rw [hm] at KM
  rw [hs] at KS
  have QM := Lib.hid KM
  have QS := Lib.hid KS
  have QP := Lib.hid (fun wr => rplace_ct s (s / 16384 - 1) 16384 a wr (by omega) (by omega) (by omega) (by omega) (by omega) (by omega) (by omega) (by omega))
  have d : decide (a < 32768) = false := by simpa using a0
  have ts1 := tdivn (x := s) (y := 16384) (by omega)
  have ts2 := tdivn (x := s) (y := 8192) (by omega)
  have x0 := obk.1
  have x1 := obk.2
  have dq : decide (a < 49152) = false := by simpa using hq
  have dr : decide (49152 ≤ a) = true := by simpa using hq
  have H := Mem.start w
  unfold mpV at *
  have e1 : (m.k == 1) = false := by rw [hk]; rfl
  have e2 : (m.k == 2) = true := by rw [hk]; rfl
  have e4 : (m.k == 4) = false := by rw [hk]; rfl
  have e7 : (m.k == 7) = false := by rw [hk]; rfl
  clear E KM KS hm hs
  go_enter Try.func10, Try.ntmps10
  go_wp2_with (first
    | (go_at_call 18; (with_reducible refine (QM.out _).mono ?_); rintro e w2 ⟨rfl, hB⟩; replace H := H.next hB; clear hB)
    | (go_at_call 14; (with_reducible refine (QS.out _).mono ?_); rintro e w2 ⟨rfl, rfl⟩)
    | (go_at_call 19; (with_reducible refine (QP.out _).mono ?_); rintro e w2 ⟨rfl, hB⟩; replace H := H.next hB; clear hB)
    | go_skip | (refine wpList_mboxA rfl _ _ rfl H _ rfl ?_; clear H; intro _ w1 _ H) | (refine gate_load _ _ rfl ?_; first | (refine wpList_mloadA rfl _ _ rfl _ rfl 0 H _ rfl (by decide +kernel) (by kernel_rfl) ?_) | (refine wpList_mload1 rfl _ _ rfl _ _ rfl 0 H _ (.int _ _) rfl rfl (by decide +kernel) ?_) | (refine wpList_mload1 rfl _ _ rfl _ _ rfl 0 H _ (.bool _) rfl rfl (by decide +kernel) ?_) | (refine wpList_mload1 rfl _ _ rfl _ _ rfl 0 H _ (.pointer _) rfl rfl (by decide +kernel) ?_) | (refine wpList_mload1 rfl _ _ rfl _ _ rfl 0 H _ (.string _) rfl rfl (by decide +kernel) ?_) | (refine wpList_mload1 rfl _ _ rfl _ _ rfl 0 H _ (.slice _ _ _) rfl rfl (by decide +kernel) ?_)) | (refine gate_store _ _ _ rfl ?_; (first | (refine wpList_mstoreA rfl _ _ _ rfl rfl _ rfl 0 H _ _ rfl rfl (by kernel_rfl) (by kernel_rfl) (by kernel_rfl) ?_) | (refine wpList_mstore rfl _ _ _ rfl rfl _ _ rfl 0 H _ _ rfl (.int _ _) rfl (by kernel_rfl) (of_decide_eq_true (by kernel_rfl)) (by kernel_rfl) rfl ?_) | (refine wpList_mstore rfl _ _ _ rfl rfl _ _ rfl 0 H _ _ rfl (.bool _) rfl (by kernel_rfl) (of_decide_eq_true (by kernel_rfl)) (by kernel_rfl) rfl ?_) | (refine wpList_mstore rfl _ _ _ rfl rfl _ _ rfl 0 H _ _ rfl (.pointer _) rfl (by kernel_rfl) (of_decide_eq_true (by kernel_rfl)) (by kernel_rfl) rfl ?_) | (refine wpList_mstore rfl _ _ _ rfl rfl _ _ rfl 0 H _ _ rfl (.string _) rfl (by kernel_rfl) (of_decide_eq_true (by kernel_rfl)) (by kernel_rfl) rfl ?_) | (refine wpList_mstore rfl _ _ _ rfl rfl _ _ rfl 0 H _ _ rfl (.slice _ _ _) rfl (by kernel_rfl) (of_decide_eq_true (by kernel_rfl)) (by kernel_rfl) rfl ?_)); clear H; intro w1 H; simp only [List.set_cons_zero, List.set_cons_succ] at H))
  go_ret2
  exact ⟨rfl, H.toBelow⟩
set_option maxHeartbeats 2000000 in
theorem rprg_400 (m : Mp) (ok : m.oct) (s a : Int) (w : World) (a0 : 32768 ≤ a) (a1 : a < 65536) (hm : mayB m = true) (hs : prgOk s = true) (hk : m.k = 4) (hb : m.se / 64 % 2 = 0) (hq : (a - 32768) / 8192 = 0) : Calls Try.prog 10 #[mpV m, .int .i64 s, .int .u16 a] w fun e w' => e = .returned (.tuple #[.int .i64 (inP m s a), .int .i64 0]) ∧ Below w.heap.size w w' := by
  obtain ⟨osh, oct, ocl, oc0, oc1, opr, obk, ose, omi, or0, or1, or2, or3, or4, or5, or6, or7, olt, ocn⟩ := ok
  obtain ⟨z0, z1⟩ := prg_sizes hs
  have E : plR s (m.r6) 8192 a = inP m s a := by
    unfold inP pBanks pFour
    rw [if_neg (by omega), if_neg (by omega), if_pos hk, if_neg (by omega), hq]
    simp only [b4_at]
    exact pl_eight _ hs
  rw [← E]
  have KM := fun wr => rmay6_ct m wr
  have KS := fun wr => rsizp_ct s wr
  rw [hm] at KM
  rw [hs] at KS
  have QM := Lib.hid KM
  have QS := Lib.hid KS
  have QP := Lib.hid (fun wr => rplace_ct s (m.r6) 8192 a wr (by omega) (by omega) (by omega) (by omega) (by omega) (by omega) (by omega) (by omega))
  have d : decide (a < 32768) = false := by simpa using a0
  have ts1 := tdivn (x := s) (y := 16384) (by omega)
  have ts2 := tdivn (x := s) (y := 8192) (by omega)
  have x0 := or6.1
  have x1 := or6.2
  have y0 := or7.1
  have y1 := or7.2
  have v0 := ose.1
  have v1 := ose.2
  have u1 := tdivn (x := m.se) (y := 64) v0
  have u2 := rem16 (x := m.se / 64) (y := 2) (by omega)
  rw [hb] at u2
  have u3 := tdivn (x := a - 32768) (y := 8192) (by omega)
  rw [hq] at u3
  have H := Mem.start w
  unfold mpV at *
  have e1 : (m.k == 1) = false := by rw [hk]; rfl
  have e2 : (m.k == 2) = false := by rw [hk]; rfl
  have e4 : (m.k == 4) = true := by rw [hk]; rfl
  have e7 : (m.k == 7) = false := by rw [hk]; rfl
  clear E KM KS hm hs
  go_enter Try.func10, Try.ntmps10
  go_wp2_with (first
    | (go_at_call 18; (with_reducible refine (QM.out _).mono ?_); rintro e w2 ⟨rfl, hB⟩; replace H := H.next hB; clear hB)
    | (go_at_call 14; (with_reducible refine (QS.out _).mono ?_); rintro e w2 ⟨rfl, rfl⟩)
    | (go_at_call 19; (with_reducible refine (QP.out _).mono ?_); rintro e w2 ⟨rfl, hB⟩; replace H := H.next hB; clear hB)
    | go_skip | (refine wpList_mboxA rfl _ _ rfl H _ rfl ?_; clear H; intro _ w1 _ H) | (refine gate_load _ _ rfl ?_; first | (refine wpList_mloadA rfl _ _ rfl _ rfl 0 H _ rfl (by decide +kernel) (by kernel_rfl) ?_) | (refine wpList_mload1 rfl _ _ rfl _ _ rfl 0 H _ (.int _ _) rfl rfl (by decide +kernel) ?_) | (refine wpList_mload1 rfl _ _ rfl _ _ rfl 0 H _ (.bool _) rfl rfl (by decide +kernel) ?_) | (refine wpList_mload1 rfl _ _ rfl _ _ rfl 0 H _ (.pointer _) rfl rfl (by decide +kernel) ?_) | (refine wpList_mload1 rfl _ _ rfl _ _ rfl 0 H _ (.string _) rfl rfl (by decide +kernel) ?_) | (refine wpList_mload1 rfl _ _ rfl _ _ rfl 0 H _ (.slice _ _ _) rfl rfl (by decide +kernel) ?_)) | (refine gate_store _ _ _ rfl ?_; (first | (refine wpList_mstoreA rfl _ _ _ rfl rfl _ rfl 0 H _ _ rfl rfl (by kernel_rfl) (by kernel_rfl) (by kernel_rfl) ?_) | (refine wpList_mstore rfl _ _ _ rfl rfl _ _ rfl 0 H _ _ rfl (.int _ _) rfl (by kernel_rfl) (of_decide_eq_true (by kernel_rfl)) (by kernel_rfl) rfl ?_) | (refine wpList_mstore rfl _ _ _ rfl rfl _ _ rfl 0 H _ _ rfl (.bool _) rfl (by kernel_rfl) (of_decide_eq_true (by kernel_rfl)) (by kernel_rfl) rfl ?_) | (refine wpList_mstore rfl _ _ _ rfl rfl _ _ rfl 0 H _ _ rfl (.pointer _) rfl (by kernel_rfl) (of_decide_eq_true (by kernel_rfl)) (by kernel_rfl) rfl ?_) | (refine wpList_mstore rfl _ _ _ rfl rfl _ _ rfl 0 H _ _ rfl (.string _) rfl (by kernel_rfl) (of_decide_eq_true (by kernel_rfl)) (by kernel_rfl) rfl ?_) | (refine wpList_mstore rfl _ _ _ rfl rfl _ _ rfl 0 H _ _ rfl (.slice _ _ _) rfl (by kernel_rfl) (of_decide_eq_true (by kernel_rfl)) (by kernel_rfl) rfl ?_)); clear H; intro w1 H; simp only [List.set_cons_zero, List.set_cons_succ] at H))
  go_ret2
  exact ⟨rfl, H.toBelow⟩
set_option maxHeartbeats 2000000 in
theorem rprg_401 (m : Mp) (ok : m.oct) (s a : Int) (w : World) (a0 : 32768 ≤ a) (a1 : a < 65536) (hm : mayB m = true) (hs : prgOk s = true) (hk : m.k = 4) (hb : m.se / 64 % 2 = 0) (hq : (a - 32768) / 8192 = 1) : Calls Try.prog 10 #[mpV m, .int .i64 s, .int .u16 a] w fun e w' => e = .returned (.tuple #[.int .i64 (inP m s a), .int .i64 0]) ∧ Below w.heap.size w w' := by
  obtain ⟨osh, oct, ocl, oc0, oc1, opr, obk, ose, omi, or0, or1, or2, or3, or4, or5, or6, or7, olt, ocn⟩ := ok
  obtain ⟨z0, z1⟩ := prg_sizes hs
  have E : plR s (m.r7) 8192 a = inP m s a := by
    unfold inP pBanks pFour
    rw [if_neg (by omega), if_neg (by omega), if_pos hk, if_neg (by omega), hq]
    simp only [b4_at]
    exact pl_eight _ hs
  rw [← E]
  have KM := fun wr => rmay6_ct m wr
  have KS := fun wr => rsizp_ct s wr
  rw [hm] at KM
  rw [hs] at KS
  have QM := Lib.hid KM
  have QS := Lib.hid KS
  have QP := Lib.hid (fun wr => rplace_ct s (m.r7) 8192 a wr (by omega) (by omega) (by omega) (by omega) (by omega) (by omega) (by omega) (by omega))
  have d : decide (a < 32768) = false := by simpa using a0
  have ts1 := tdivn (x := s) (y := 16384) (by omega)
  have ts2 := tdivn (x := s) (y := 8192) (by omega)
  have x0 := or6.1
  have x1 := or6.2
  have y0 := or7.1
  have y1 := or7.2
  have v0 := ose.1
  have v1 := ose.2
  have u1 := tdivn (x := m.se) (y := 64) v0
  have u2 := rem16 (x := m.se / 64) (y := 2) (by omega)
  rw [hb] at u2
  have u3 := tdivn (x := a - 32768) (y := 8192) (by omega)
  rw [hq] at u3
  have H := Mem.start w
  unfold mpV at *
  have e1 : (m.k == 1) = false := by rw [hk]; rfl
  have e2 : (m.k == 2) = false := by rw [hk]; rfl
  have e4 : (m.k == 4) = true := by rw [hk]; rfl
  have e7 : (m.k == 7) = false := by rw [hk]; rfl
  clear E KM KS hm hs
  go_enter Try.func10, Try.ntmps10
  go_wp2_with (first
    | (go_at_call 18; (with_reducible refine (QM.out _).mono ?_); rintro e w2 ⟨rfl, hB⟩; replace H := H.next hB; clear hB)
    | (go_at_call 14; (with_reducible refine (QS.out _).mono ?_); rintro e w2 ⟨rfl, rfl⟩)
    | (go_at_call 19; (with_reducible refine (QP.out _).mono ?_); rintro e w2 ⟨rfl, hB⟩; replace H := H.next hB; clear hB)
    | go_skip | (refine wpList_mboxA rfl _ _ rfl H _ rfl ?_; clear H; intro _ w1 _ H) | (refine gate_load _ _ rfl ?_; first | (refine wpList_mloadA rfl _ _ rfl _ rfl 0 H _ rfl (by decide +kernel) (by kernel_rfl) ?_) | (refine wpList_mload1 rfl _ _ rfl _ _ rfl 0 H _ (.int _ _) rfl rfl (by decide +kernel) ?_) | (refine wpList_mload1 rfl _ _ rfl _ _ rfl 0 H _ (.bool _) rfl rfl (by decide +kernel) ?_) | (refine wpList_mload1 rfl _ _ rfl _ _ rfl 0 H _ (.pointer _) rfl rfl (by decide +kernel) ?_) | (refine wpList_mload1 rfl _ _ rfl _ _ rfl 0 H _ (.string _) rfl rfl (by decide +kernel) ?_) | (refine wpList_mload1 rfl _ _ rfl _ _ rfl 0 H _ (.slice _ _ _) rfl rfl (by decide +kernel) ?_)) | (refine gate_store _ _ _ rfl ?_; (first | (refine wpList_mstoreA rfl _ _ _ rfl rfl _ rfl 0 H _ _ rfl rfl (by kernel_rfl) (by kernel_rfl) (by kernel_rfl) ?_) | (refine wpList_mstore rfl _ _ _ rfl rfl _ _ rfl 0 H _ _ rfl (.int _ _) rfl (by kernel_rfl) (of_decide_eq_true (by kernel_rfl)) (by kernel_rfl) rfl ?_) | (refine wpList_mstore rfl _ _ _ rfl rfl _ _ rfl 0 H _ _ rfl (.bool _) rfl (by kernel_rfl) (of_decide_eq_true (by kernel_rfl)) (by kernel_rfl) rfl ?_) | (refine wpList_mstore rfl _ _ _ rfl rfl _ _ rfl 0 H _ _ rfl (.pointer _) rfl (by kernel_rfl) (of_decide_eq_true (by kernel_rfl)) (by kernel_rfl) rfl ?_) | (refine wpList_mstore rfl _ _ _ rfl rfl _ _ rfl 0 H _ _ rfl (.string _) rfl (by kernel_rfl) (of_decide_eq_true (by kernel_rfl)) (by kernel_rfl) rfl ?_) | (refine wpList_mstore rfl _ _ _ rfl rfl _ _ rfl 0 H _ _ rfl (.slice _ _ _) rfl (by kernel_rfl) (of_decide_eq_true (by kernel_rfl)) (by kernel_rfl) rfl ?_)); clear H; intro w1 H; simp only [List.set_cons_zero, List.set_cons_succ] at H))
  go_ret2
  exact ⟨rfl, H.toBelow⟩
set_option maxHeartbeats 2000000 in
theorem rprg_402 (m : Mp) (ok : m.oct) (s a : Int) (w : World) (a0 : 32768 ≤ a) (a1 : a < 65536) (hm : mayB m = true) (hs : prgOk s = true) (hk : m.k = 4) (hb : m.se / 64 % 2 = 0) (hq : (a - 32768) / 8192 = 2) : Calls Try.prog 10 #[mpV m, .int .i64 s, .int .u16 a] w fun e w' => e = .returned (.tuple #[.int .i64 (inP m s a), .int .i64 0]) ∧ Below w.heap.size w w' := by
  obtain ⟨osh, oct, ocl, oc0, oc1, opr, obk, ose, omi, or0, or1, or2, or3, or4, or5, or6, or7, olt, ocn⟩ := ok
  obtain ⟨z0, z1⟩ := prg_sizes hs
  have E : plR s (s / 8192 - 1 - 1) 8192 a = inP m s a := by
    unfold inP pBanks pFour
    rw [if_neg (by omega), if_neg (by omega), if_pos hk, if_neg (by omega), hq]
    simp only [b4_at]
    exact pl_eight _ hs
  rw [← E]
  have KM := fun wr => rmay6_ct m wr
  have KS := fun wr => rsizp_ct s wr
  rw [hm] at KM
  rw [hs] at KS
  have QM := Lib.hid KM
  have QS := Lib.hid KS
  have QP := Lib.hid (fun wr => rplace_ct s (s / 8192 - 1 - 1) 8192 a wr (by omega) (by omega) (by omega) (by omega) (by omega) (by omega) (by omega) (by omega))
  have d : decide (a < 32768) = false := by simpa using a0
  have ts1 := tdivn (x := s) (y := 16384) (by omega)
  have ts2 := tdivn (x := s) (y := 8192) (by omega)
  have x0 := or6.1
  have x1 := or6.2
  have y0 := or7.1
  have y1 := or7.2
  have v0 := ose.1
  have v1 := ose.2
  have u1 := tdivn (x := m.se) (y := 64) v0
  have u2 := rem16 (x := m.se / 64) (y := 2) (by omega)
  rw [hb] at u2
  have u3 := tdivn (x := a - 32768) (y := 8192) (by omega)
  rw [hq] at u3
  have H := Mem.start w
  unfold mpV at *
  have e1 : (m.k == 1) = false := by rw [hk]; rfl
  have e2 : (m.k == 2) = false := by rw [hk]; rfl
  have e4 : (m.k == 4) = true := by rw [hk]; rfl
  have e7 : (m.k == 7) = false := by rw [hk]; rfl
  clear E KM KS hm hs
  go_enter Try.func10, Try.ntmps10
  go_wp2_with (first
    | (go_at_call 18; (with_reducible refine (QM.out _).mono ?_); rintro e w2 ⟨rfl, hB⟩; replace H := H.next hB; clear hB)
    | (go_at_call 14; (with_reducible refine (QS.out _).mono ?_); rintro e w2 ⟨rfl, rfl⟩)
    | (go_at_call 19; (with_reducible refine (QP.out _).mono ?_); rintro e w2 ⟨rfl, hB⟩; replace H := H.next hB; clear hB)
    | go_skip | (refine wpList_mboxA rfl _ _ rfl H _ rfl ?_; clear H; intro _ w1 _ H) | (refine gate_load _ _ rfl ?_; first | (refine wpList_mloadA rfl _ _ rfl _ rfl 0 H _ rfl (by decide +kernel) (by kernel_rfl) ?_) | (refine wpList_mload1 rfl _ _ rfl _ _ rfl 0 H _ (.int _ _) rfl rfl (by decide +kernel) ?_) | (refine wpList_mload1 rfl _ _ rfl _ _ rfl 0 H _ (.bool _) rfl rfl (by decide +kernel) ?_) | (refine wpList_mload1 rfl _ _ rfl _ _ rfl 0 H _ (.pointer _) rfl rfl (by decide +kernel) ?_) | (refine wpList_mload1 rfl _ _ rfl _ _ rfl 0 H _ (.string _) rfl rfl (by decide +kernel) ?_) | (refine wpList_mload1 rfl _ _ rfl _ _ rfl 0 H _ (.slice _ _ _) rfl rfl (by decide +kernel) ?_)) | (refine gate_store _ _ _ rfl ?_; (first | (refine wpList_mstoreA rfl _ _ _ rfl rfl _ rfl 0 H _ _ rfl rfl (by kernel_rfl) (by kernel_rfl) (by kernel_rfl) ?_) | (refine wpList_mstore rfl _ _ _ rfl rfl _ _ rfl 0 H _ _ rfl (.int _ _) rfl (by kernel_rfl) (of_decide_eq_true (by kernel_rfl)) (by kernel_rfl) rfl ?_) | (refine wpList_mstore rfl _ _ _ rfl rfl _ _ rfl 0 H _ _ rfl (.bool _) rfl (by kernel_rfl) (of_decide_eq_true (by kernel_rfl)) (by kernel_rfl) rfl ?_) | (refine wpList_mstore rfl _ _ _ rfl rfl _ _ rfl 0 H _ _ rfl (.pointer _) rfl (by kernel_rfl) (of_decide_eq_true (by kernel_rfl)) (by kernel_rfl) rfl ?_) | (refine wpList_mstore rfl _ _ _ rfl rfl _ _ rfl 0 H _ _ rfl (.string _) rfl (by kernel_rfl) (of_decide_eq_true (by kernel_rfl)) (by kernel_rfl) rfl ?_) | (refine wpList_mstore rfl _ _ _ rfl rfl _ _ rfl 0 H _ _ rfl (.slice _ _ _) rfl (by kernel_rfl) (of_decide_eq_true (by kernel_rfl)) (by kernel_rfl) rfl ?_)); clear H; intro w1 H; simp only [List.set_cons_zero, List.set_cons_succ] at H))
  go_ret2
  exact ⟨rfl, H.toBelow⟩
set_option maxHeartbeats 2000000 in
theorem rprg_403 (m : Mp) (ok : m.oct) (s a : Int) (w : World) (a0 : 32768 ≤ a) (a1 : a < 65536) (hm : mayB m = true) (hs : prgOk s = true) (hk : m.k = 4) (hb : m.se / 64 % 2 = 0) (hq : (a - 32768) / 8192 = 3) : Calls Try.prog 10 #[mpV m, .int .i64 s, .int .u16 a] w fun e w' => e = .returned (.tuple #[.int .i64 (inP m s a), .int .i64 0]) ∧ Below w.heap.size w w' := by
  obtain ⟨osh, oct, ocl, oc0, oc1, opr, obk, ose, omi, or0, or1, or2, or3, or4, or5, or6, or7, olt, ocn⟩ := ok
  obtain ⟨z0, z1⟩ := prg_sizes hs
  have E : plR s (s / 8192 - 1) 8192 a = inP m s a := by
    unfold inP pBanks pFour
    rw [if_neg (by omega), if_neg (by omega), if_pos hk, if_neg (by omega), hq]
    simp only [b4_at]
    exact pl_eight _ hs
  rw [← E]
  have KM := fun wr => rmay6_ct m wr
  have KS := fun wr => rsizp_ct s wr
  rw [hm] at KM
  rw [hs] at KS
  have QM := Lib.hid KM
  have QS := Lib.hid KS
  have QP := Lib.hid (fun wr => rplace_ct s (s / 8192 - 1) 8192 a wr (by omega) (by omega) (by omega) (by omega) (by omega) (by omega) (by omega) (by omega))
  have d : decide (a < 32768) = false := by simpa using a0
  have ts1 := tdivn (x := s) (y := 16384) (by omega)
  have ts2 := tdivn (x := s) (y := 8192) (by omega)
  have x0 := or6.1
  have x1 := or6.2
  have y0 := or7.1
  have y1 := or7.2
  have v0 := ose.1
  have v1 := ose.2
  have u1 := tdivn (x := m.se) (y := 64) v0
  have u2 := rem16 (x := m.se / 64) (y := 2) (by omega)
  rw [hb] at u2
  have u3 := tdivn (x := a - 32768) (y := 8192) (by omega)
  rw [hq] at u3
  have H := Mem.start w
  unfold mpV at *
  have e1 : (m.k == 1) = false := by rw [hk]; rfl
  have e2 : (m.k == 2) = false := by rw [hk]; rfl
  have e4 : (m.k == 4) = true := by rw [hk]; rfl
  have e7 : (m.k == 7) = false := by rw [hk]; rfl
  clear E KM KS hm hs
  go_enter Try.func10, Try.ntmps10
  go_wp2_with (first
    | (go_at_call 18; (with_reducible refine (QM.out _).mono ?_); rintro e w2 ⟨rfl, hB⟩; replace H := H.next hB; clear hB)
    | (go_at_call 14; (with_reducible refine (QS.out _).mono ?_); rintro e w2 ⟨rfl, rfl⟩)
    | (go_at_call 19; (with_reducible refine (QP.out _).mono ?_); rintro e w2 ⟨rfl, hB⟩; replace H := H.next hB; clear hB)
    | go_skip | (refine wpList_mboxA rfl _ _ rfl H _ rfl ?_; clear H; intro _ w1 _ H) | (refine gate_load _ _ rfl ?_; first | (refine wpList_mloadA rfl _ _ rfl _ rfl 0 H _ rfl (by decide +kernel) (by kernel_rfl) ?_) | (refine wpList_mload1 rfl _ _ rfl _ _ rfl 0 H _ (.int _ _) rfl rfl (by decide +kernel) ?_) | (refine wpList_mload1 rfl _ _ rfl _ _ rfl 0 H _ (.bool _) rfl rfl (by decide +kernel) ?_) | (refine wpList_mload1 rfl _ _ rfl _ _ rfl 0 H _ (.pointer _) rfl rfl (by decide +kernel) ?_) | (refine wpList_mload1 rfl _ _ rfl _ _ rfl 0 H _ (.string _) rfl rfl (by decide +kernel) ?_) | (refine wpList_mload1 rfl _ _ rfl _ _ rfl 0 H _ (.slice _ _ _) rfl rfl (by decide +kernel) ?_)) | (refine gate_store _ _ _ rfl ?_; (first | (refine wpList_mstoreA rfl _ _ _ rfl rfl _ rfl 0 H _ _ rfl rfl (by kernel_rfl) (by kernel_rfl) (by kernel_rfl) ?_) | (refine wpList_mstore rfl _ _ _ rfl rfl _ _ rfl 0 H _ _ rfl (.int _ _) rfl (by kernel_rfl) (of_decide_eq_true (by kernel_rfl)) (by kernel_rfl) rfl ?_) | (refine wpList_mstore rfl _ _ _ rfl rfl _ _ rfl 0 H _ _ rfl (.bool _) rfl (by kernel_rfl) (of_decide_eq_true (by kernel_rfl)) (by kernel_rfl) rfl ?_) | (refine wpList_mstore rfl _ _ _ rfl rfl _ _ rfl 0 H _ _ rfl (.pointer _) rfl (by kernel_rfl) (of_decide_eq_true (by kernel_rfl)) (by kernel_rfl) rfl ?_) | (refine wpList_mstore rfl _ _ _ rfl rfl _ _ rfl 0 H _ _ rfl (.string _) rfl (by kernel_rfl) (of_decide_eq_true (by kernel_rfl)) (by kernel_rfl) rfl ?_) | (refine wpList_mstore rfl _ _ _ rfl rfl _ _ rfl 0 H _ _ rfl (.slice _ _ _) rfl (by kernel_rfl) (of_decide_eq_true (by kernel_rfl)) (by kernel_rfl) rfl ?_)); clear H; intro w1 H; simp only [List.set_cons_zero, List.set_cons_succ] at H))
  go_ret2
  exact ⟨rfl, H.toBelow⟩
set_option maxHeartbeats 2000000 in
theorem rprg_410 (m : Mp) (ok : m.oct) (s a : Int) (w : World) (a0 : 32768 ≤ a) (a1 : a < 65536) (hm : mayB m = true) (hs : prgOk s = true) (hk : m.k = 4) (hb : m.se / 64 % 2 = 1) (hq : (a - 32768) / 8192 = 0) : Calls Try.prog 10 #[mpV m, .int .i64 s, .int .u16 a] w fun e w' => e = .returned (.tuple #[.int .i64 (inP m s a), .int .i64 0]) ∧ Below w.heap.size w w' := by
  obtain ⟨osh, oct, ocl, oc0, oc1, opr, obk, ose, omi, or0, or1, or2, or3, or4, or5, or6, or7, olt, ocn⟩ := ok
  obtain ⟨z0, z1⟩ := prg_sizes hs
  have E : plR s (s / 8192 - 1 - 1) 8192 a = inP m s a := by
    unfold inP pBanks pFour
    rw [if_neg (by omega), if_neg (by omega), if_pos hk, if_pos hb, hq]
    simp only [b4_at]
    exact pl_eight _ hs
  rw [← E]
  have KM := fun wr => rmay6_ct m wr
  have KS := fun wr => rsizp_ct s wr
  rw [hm] at KM
  rw [hs] at KS
  have QM := Lib.hid KM
  have QS := Lib.hid KS
  have QP := Lib.hid (fun wr => rplace_ct s (s / 8192 - 1 - 1) 8192 a wr (by omega) (by omega) (by omega) (by omega) (by omega) (by omega) (by omega) (by omega))
  have d : decide (a < 32768) = false := by simpa using a0
  have ts1 := tdivn (x := s) (y := 16384) (by omega)
  have ts2 := tdivn (x := s) (y := 8192) (by omega)
  have x0 := or6.1
  have x1 := or6.2
  have y0 := or7.1
  have y1 := or7.2
  have v0 := ose.1
  have v1 := ose.2
  have u1 := tdivn (x := m.se) (y := 64) v0
  have u2 := rem16 (x := m.se / 64) (y := 2) (by omega)
  rw [hb] at u2
  have u3 := tdivn (x := a - 32768) (y := 8192) (by omega)
  rw [hq] at u3
  have H := Mem.start w
  unfold mpV at *
  have e1 : (m.k == 1) = false := by rw [hk]; rfl
  have e2 : (m.k == 2) = false := by rw [hk]; rfl
  have e4 : (m.k == 4) = true := by rw [hk]; rfl
  have e7 : (m.k == 7) = false := by rw [hk]; rfl
  clear E KM KS hm hs
  go_enter Try.func10, Try.ntmps10
  go_wp2_with (first
    | (go_at_call 18; (with_reducible refine (QM.out _).mono ?_); rintro e w2 ⟨rfl, hB⟩; replace H := H.next hB; clear hB)
    | (go_at_call 14; (with_reducible refine (QS.out _).mono ?_); rintro e w2 ⟨rfl, rfl⟩)
    | (go_at_call 19; (with_reducible refine (QP.out _).mono ?_); rintro e w2 ⟨rfl, hB⟩; replace H := H.next hB; clear hB)
    | go_skip | (refine wpList_mboxA rfl _ _ rfl H _ rfl ?_; clear H; intro _ w1 _ H) | (refine gate_load _ _ rfl ?_; first | (refine wpList_mloadA rfl _ _ rfl _ rfl 0 H _ rfl (by decide +kernel) (by kernel_rfl) ?_) | (refine wpList_mload1 rfl _ _ rfl _ _ rfl 0 H _ (.int _ _) rfl rfl (by decide +kernel) ?_) | (refine wpList_mload1 rfl _ _ rfl _ _ rfl 0 H _ (.bool _) rfl rfl (by decide +kernel) ?_) | (refine wpList_mload1 rfl _ _ rfl _ _ rfl 0 H _ (.pointer _) rfl rfl (by decide +kernel) ?_) | (refine wpList_mload1 rfl _ _ rfl _ _ rfl 0 H _ (.string _) rfl rfl (by decide +kernel) ?_) | (refine wpList_mload1 rfl _ _ rfl _ _ rfl 0 H _ (.slice _ _ _) rfl rfl (by decide +kernel) ?_)) | (refine gate_store _ _ _ rfl ?_; (first | (refine wpList_mstoreA rfl _ _ _ rfl rfl _ rfl 0 H _ _ rfl rfl (by kernel_rfl) (by kernel_rfl) (by kernel_rfl) ?_) | (refine wpList_mstore rfl _ _ _ rfl rfl _ _ rfl 0 H _ _ rfl (.int _ _) rfl (by kernel_rfl) (of_decide_eq_true (by kernel_rfl)) (by kernel_rfl) rfl ?_) | (refine wpList_mstore rfl _ _ _ rfl rfl _ _ rfl 0 H _ _ rfl (.bool _) rfl (by kernel_rfl) (of_decide_eq_true (by kernel_rfl)) (by kernel_rfl) rfl ?_) | (refine wpList_mstore rfl _ _ _ rfl rfl _ _ rfl 0 H _ _ rfl (.pointer _) rfl (by kernel_rfl) (of_decide_eq_true (by kernel_rfl)) (by kernel_rfl) rfl ?_) | (refine wpList_mstore rfl _ _ _ rfl rfl _ _ rfl 0 H _ _ rfl (.string _) rfl (by kernel_rfl) (of_decide_eq_true (by kernel_rfl)) (by kernel_rfl) rfl ?_) | (refine wpList_mstore rfl _ _ _ rfl rfl _ _ rfl 0 H _ _ rfl (.slice _ _ _) rfl (by kernel_rfl) (of_decide_eq_true (by kernel_rfl)) (by kernel_rfl) rfl ?_)); clear H; intro w1 H; simp only [List.set_cons_zero, List.set_cons_succ] at H))
  go_ret2
  exact ⟨rfl, H.toBelow⟩
set_option maxHeartbeats 2000000 in
theorem rprg_411 (m : Mp) (ok : m.oct) (s a : Int) (w : World) (a0 : 32768 ≤ a) (a1 : a < 65536) (hm : mayB m = true) (hs : prgOk s = true) (hk : m.k = 4) (hb : m.se / 64 % 2 = 1) (hq : (a - 32768) / 8192 = 1) : Calls Try.prog 10 #[mpV m, .int .i64 s, .int .u16 a] w fun e w' => e = .returned (.tuple #[.int .i64 (inP m s a), .int .i64 0]) ∧ Below w.heap.size w w' := by
  obtain ⟨osh, oct, ocl, oc0, oc1, opr, obk, ose, omi, or0, or1, or2, or3, or4, or5, or6, or7, olt, ocn⟩ := ok
  obtain ⟨z0, z1⟩ := prg_sizes hs
  have E : plR s (m.r7) 8192 a = inP m s a := by
    unfold inP pBanks pFour
    rw [if_neg (by omega), if_neg (by omega), if_pos hk, if_pos hb, hq]
    simp only [b4_at]
    exact pl_eight _ hs
  rw [← E]
  have KM := fun wr => rmay6_ct m wr
  have KS := fun wr => rsizp_ct s wr
  rw [hm] at KM
  rw [hs] at KS
  have QM := Lib.hid KM
  have QS := Lib.hid KS
  have QP := Lib.hid (fun wr => rplace_ct s (m.r7) 8192 a wr (by omega) (by omega) (by omega) (by omega) (by omega) (by omega) (by omega) (by omega))
  have d : decide (a < 32768) = false := by simpa using a0
  have ts1 := tdivn (x := s) (y := 16384) (by omega)
  have ts2 := tdivn (x := s) (y := 8192) (by omega)
  have x0 := or6.1
  have x1 := or6.2
  have y0 := or7.1
  have y1 := or7.2
  have v0 := ose.1
  have v1 := ose.2
  have u1 := tdivn (x := m.se) (y := 64) v0
  have u2 := rem16 (x := m.se / 64) (y := 2) (by omega)
  rw [hb] at u2
  have u3 := tdivn (x := a - 32768) (y := 8192) (by omega)
  rw [hq] at u3
  have H := Mem.start w
  unfold mpV at *
  have e1 : (m.k == 1) = false := by rw [hk]; rfl
  have e2 : (m.k == 2) = false := by rw [hk]; rfl
  have e4 : (m.k == 4) = true := by rw [hk]; rfl
  have e7 : (m.k == 7) = false := by rw [hk]; rfl
  clear E KM KS hm hs
  go_enter Try.func10, Try.ntmps10
  go_wp2_with (first
    | (go_at_call 18; (with_reducible refine (QM.out _).mono ?_); rintro e w2 ⟨rfl, hB⟩; replace H := H.next hB; clear hB)
    | (go_at_call 14; (with_reducible refine (QS.out _).mono ?_); rintro e w2 ⟨rfl, rfl⟩)
    | (go_at_call 19; (with_reducible refine (QP.out _).mono ?_); rintro e w2 ⟨rfl, hB⟩; replace H := H.next hB; clear hB)
    | go_skip | (refine wpList_mboxA rfl _ _ rfl H _ rfl ?_; clear H; intro _ w1 _ H) | (refine gate_load _ _ rfl ?_; first | (refine wpList_mloadA rfl _ _ rfl _ rfl 0 H _ rfl (by decide +kernel) (by kernel_rfl) ?_) | (refine wpList_mload1 rfl _ _ rfl _ _ rfl 0 H _ (.int _ _) rfl rfl (by decide +kernel) ?_) | (refine wpList_mload1 rfl _ _ rfl _ _ rfl 0 H _ (.bool _) rfl rfl (by decide +kernel) ?_) | (refine wpList_mload1 rfl _ _ rfl _ _ rfl 0 H _ (.pointer _) rfl rfl (by decide +kernel) ?_) | (refine wpList_mload1 rfl _ _ rfl _ _ rfl 0 H _ (.string _) rfl rfl (by decide +kernel) ?_) | (refine wpList_mload1 rfl _ _ rfl _ _ rfl 0 H _ (.slice _ _ _) rfl rfl (by decide +kernel) ?_)) | (refine gate_store _ _ _ rfl ?_; (first | (refine wpList_mstoreA rfl _ _ _ rfl rfl _ rfl 0 H _ _ rfl rfl (by kernel_rfl) (by kernel_rfl) (by kernel_rfl) ?_) | (refine wpList_mstore rfl _ _ _ rfl rfl _ _ rfl 0 H _ _ rfl (.int _ _) rfl (by kernel_rfl) (of_decide_eq_true (by kernel_rfl)) (by kernel_rfl) rfl ?_) | (refine wpList_mstore rfl _ _ _ rfl rfl _ _ rfl 0 H _ _ rfl (.bool _) rfl (by kernel_rfl) (of_decide_eq_true (by kernel_rfl)) (by kernel_rfl) rfl ?_) | (refine wpList_mstore rfl _ _ _ rfl rfl _ _ rfl 0 H _ _ rfl (.pointer _) rfl (by kernel_rfl) (of_decide_eq_true (by kernel_rfl)) (by kernel_rfl) rfl ?_) | (refine wpList_mstore rfl _ _ _ rfl rfl _ _ rfl 0 H _ _ rfl (.string _) rfl (by kernel_rfl) (of_decide_eq_true (by kernel_rfl)) (by kernel_rfl) rfl ?_) | (refine wpList_mstore rfl _ _ _ rfl rfl _ _ rfl 0 H _ _ rfl (.slice _ _ _) rfl (by kernel_rfl) (of_decide_eq_true (by kernel_rfl)) (by kernel_rfl) rfl ?_)); clear H; intro w1 H; simp only [List.set_cons_zero, List.set_cons_succ] at H))
  go_ret2
  exact ⟨rfl, H.toBelow⟩
set_option maxHeartbeats 2000000 in
theorem rprg_412 (m : Mp) (ok : m.oct) (s a : Int) (w : World) (a0 : 32768 ≤ a) (a1 : a < 65536) (hm : mayB m = true) (hs : prgOk s = true) (hk : m.k = 4) (hb : m.se / 64 % 2 = 1) (hq : (a - 32768) / 8192 = 2) : Calls Try.prog 10 #[mpV m, .int .i64 s, .int .u16 a] w fun e w' => e = .returned (.tuple #[.int .i64 (inP m s a), .int .i64 0]) ∧ Below w.heap.size w w' := by
  obtain ⟨osh, oct, ocl, oc0, oc1, opr, obk, ose, omi, or0, or1, or2, or3, or4, or5, or6, or7, olt, ocn⟩ := ok
  obtain ⟨z0, z1⟩ := prg_sizes hs
  have E : plR s (m.r6) 8192 a = inP m s a := by
    unfold inP pBanks pFour
    rw [if_neg (by omega), if_neg (by omega), if_pos hk, if_pos hb, hq]
    simp only [b4_at]
    exact pl_eight _ hs
  rw [← E]
  have KM := fun wr => rmay6_ct m wr
  have KS := fun wr => rsizp_ct s wr
  rw [hm] at KM
  rw [hs] at KS
  have QM := Lib.hid KM
  have QS := Lib.hid KS
  have QP := Lib.hid (fun wr => rplace_ct s (m.r6) 8192 a wr (by omega) (by omega) (by omega) (by omega) (by omega) (by omega) (by omega) (by omega))
  have d : decide (a < 32768) = false := by simpa using a0
  have ts1 := tdivn (x := s) (y := 16384) (by omega)
  have ts2 := tdivn (x := s) (y := 8192) (by omega)
  have x0 := or6.1
  have x1 := or6.2
  have y0 := or7.1
  have y1 := or7.2
  have v0 := ose.1
  have v1 := ose.2
  have u1 := tdivn (x := m.se) (y := 64) v0
  have u2 := rem16 (x := m.se / 64) (y := 2) (by omega)
  rw [hb] at u2
  have u3 := tdivn (x := a - 32768) (y := 8192) (by omega)
  rw [hq] at u3
  have H := Mem.start w
  unfold mpV at *
  have e1 : (m.k == 1) = false := by rw [hk]; rfl
  have e2 : (m.k == 2) = false := by rw [hk]; rfl
  have e4 : (m.k == 4) = true := by rw [hk]; rfl
  have e7 : (m.k == 7) = false := by rw [hk]; rfl
  clear E KM KS hm hs
  go_enter Try.func10, Try.ntmps10
  go_wp2_with (first
    | (go_at_call 18; (with_reducible refine (QM.out _).mono ?_); rintro e w2 ⟨rfl, hB⟩; replace H := H.next hB; clear hB)
    | (go_at_call 14; (with_reducible refine (QS.out _).mono ?_); rintro e w2 ⟨rfl, rfl⟩)
    | (go_at_call 19; (with_reducible refine (QP.out _).mono ?_); rintro e w2 ⟨rfl, hB⟩; replace H := H.next hB; clear hB)
    | go_skip | (refine wpList_mboxA rfl _ _ rfl H _ rfl ?_; clear H; intro _ w1 _ H) | (refine gate_load _ _ rfl ?_; first | (refine wpList_mloadA rfl _ _ rfl _ rfl 0 H _ rfl (by decide +kernel) (by kernel_rfl) ?_) | (refine wpList_mload1 rfl _ _ rfl _ _ rfl 0 H _ (.int _ _) rfl rfl (by decide +kernel) ?_) | (refine wpList_mload1 rfl _ _ rfl _ _ rfl 0 H _ (.bool _) rfl rfl (by decide +kernel) ?_) | (refine wpList_mload1 rfl _ _ rfl _ _ rfl 0 H _ (.pointer _) rfl rfl (by decide +kernel) ?_) | (refine wpList_mload1 rfl _ _ rfl _ _ rfl 0 H _ (.string _) rfl rfl (by decide +kernel) ?_) | (refine wpList_mload1 rfl _ _ rfl _ _ rfl 0 H _ (.slice _ _ _) rfl rfl (by decide +kernel) ?_)) | (refine gate_store _ _ _ rfl ?_; (first | (refine wpList_mstoreA rfl _ _ _ rfl rfl _ rfl 0 H _ _ rfl rfl (by kernel_rfl) (by kernel_rfl) (by kernel_rfl) ?_) | (refine wpList_mstore rfl _ _ _ rfl rfl _ _ rfl 0 H _ _ rfl (.int _ _) rfl (by kernel_rfl) (of_decide_eq_true (by kernel_rfl)) (by kernel_rfl) rfl ?_) | (refine wpList_mstore rfl _ _ _ rfl rfl _ _ rfl 0 H _ _ rfl (.bool _) rfl (by kernel_rfl) (of_decide_eq_true (by kernel_rfl)) (by kernel_rfl) rfl ?_) | (refine wpList_mstore rfl _ _ _ rfl rfl _ _ rfl 0 H _ _ rfl (.pointer _) rfl (by kernel_rfl) (of_decide_eq_true (by kernel_rfl)) (by kernel_rfl) rfl ?_) | (refine wpList_mstore rfl _ _ _ rfl rfl _ _ rfl 0 H _ _ rfl (.string _) rfl (by kernel_rfl) (of_decide_eq_true (by kernel_rfl)) (by kernel_rfl) rfl ?_) | (refine wpList_mstore rfl _ _ _ rfl rfl _ _ rfl 0 H _ _ rfl (.slice _ _ _) rfl (by kernel_rfl) (of_decide_eq_true (by kernel_rfl)) (by kernel_rfl) rfl ?_)); clear H; intro w1 H; simp only [List.set_cons_zero, List.set_cons_succ] at H))
  go_ret2
  exact ⟨rfl, H.toBelow⟩
set_option maxHeartbeats 2000000 in
theorem rprg_413 (m : Mp) (ok : m.oct) (s a : Int) (w : World) (a0 : 32768 ≤ a) (a1 : a < 65536) (hm : mayB m = true) (hs : prgOk s = true) (hk : m.k = 4) (hb : m.se / 64 % 2 = 1) (hq : (a - 32768) / 8192 = 3) : Calls Try.prog 10 #[mpV m, .int .i64 s, .int .u16 a] w fun e w' => e = .returned (.tuple #[.int .i64 (inP m s a), .int .i64 0]) ∧ Below w.heap.size w w' := by
  obtain ⟨osh, oct, ocl, oc0, oc1, opr, obk, ose, omi, or0, or1, or2, or3, or4, or5, or6, or7, olt, ocn⟩ := ok
  obtain ⟨z0, z1⟩ := prg_sizes hs
  have E : plR s (s / 8192 - 1) 8192 a = inP m s a := by
    unfold inP pBanks pFour
    rw [if_neg (by omega), if_neg (by omega), if_pos hk, if_pos hb, hq]
    simp only [b4_at]
    exact pl_eight _ hs
  rw [← E]
  have KM := fun wr => rmay6_ct m wr
  have KS := fun wr => rsizp_ct s wr
  rw [hm] at KM
  rw [hs] at KS
  have QM := Lib.hid KM
  have QS := Lib.hid KS
  have QP := Lib.hid (fun wr => rplace_ct s (s / 8192 - 1) 8192 a wr (by omega) (by omega) (by omega) (by omega) (by omega) (by omega) (by omega) (by omega))
  have d : decide (a < 32768) = false := by simpa using a0
  have ts1 := tdivn (x := s) (y := 16384) (by omega)
  have ts2 := tdivn (x := s) (y := 8192) (by omega)
  have x0 := or6.1
  have x1 := or6.2
  have y0 := or7.1
  have y1 := or7.2
  have v0 := ose.1
  have v1 := ose.2
  have u1 := tdivn (x := m.se) (y := 64) v0
  have u2 := rem16 (x := m.se / 64) (y := 2) (by omega)
  rw [hb] at u2
  have u3 := tdivn (x := a - 32768) (y := 8192) (by omega)
  rw [hq] at u3
  have H := Mem.start w
  unfold mpV at *
  have e1 : (m.k == 1) = false := by rw [hk]; rfl
  have e2 : (m.k == 2) = false := by rw [hk]; rfl
  have e4 : (m.k == 4) = true := by rw [hk]; rfl
  have e7 : (m.k == 7) = false := by rw [hk]; rfl
  clear E KM KS hm hs
  go_enter Try.func10, Try.ntmps10
  go_wp2_with (first
    | (go_at_call 18; (with_reducible refine (QM.out _).mono ?_); rintro e w2 ⟨rfl, hB⟩; replace H := H.next hB; clear hB)
    | (go_at_call 14; (with_reducible refine (QS.out _).mono ?_); rintro e w2 ⟨rfl, rfl⟩)
    | (go_at_call 19; (with_reducible refine (QP.out _).mono ?_); rintro e w2 ⟨rfl, hB⟩; replace H := H.next hB; clear hB)
    | go_skip | (refine wpList_mboxA rfl _ _ rfl H _ rfl ?_; clear H; intro _ w1 _ H) | (refine gate_load _ _ rfl ?_; first | (refine wpList_mloadA rfl _ _ rfl _ rfl 0 H _ rfl (by decide +kernel) (by kernel_rfl) ?_) | (refine wpList_mload1 rfl _ _ rfl _ _ rfl 0 H _ (.int _ _) rfl rfl (by decide +kernel) ?_) | (refine wpList_mload1 rfl _ _ rfl _ _ rfl 0 H _ (.bool _) rfl rfl (by decide +kernel) ?_) | (refine wpList_mload1 rfl _ _ rfl _ _ rfl 0 H _ (.pointer _) rfl rfl (by decide +kernel) ?_) | (refine wpList_mload1 rfl _ _ rfl _ _ rfl 0 H _ (.string _) rfl rfl (by decide +kernel) ?_) | (refine wpList_mload1 rfl _ _ rfl _ _ rfl 0 H _ (.slice _ _ _) rfl rfl (by decide +kernel) ?_)) | (refine gate_store _ _ _ rfl ?_; (first | (refine wpList_mstoreA rfl _ _ _ rfl rfl _ rfl 0 H _ _ rfl rfl (by kernel_rfl) (by kernel_rfl) (by kernel_rfl) ?_) | (refine wpList_mstore rfl _ _ _ rfl rfl _ _ rfl 0 H _ _ rfl (.int _ _) rfl (by kernel_rfl) (of_decide_eq_true (by kernel_rfl)) (by kernel_rfl) rfl ?_) | (refine wpList_mstore rfl _ _ _ rfl rfl _ _ rfl 0 H _ _ rfl (.bool _) rfl (by kernel_rfl) (of_decide_eq_true (by kernel_rfl)) (by kernel_rfl) rfl ?_) | (refine wpList_mstore rfl _ _ _ rfl rfl _ _ rfl 0 H _ _ rfl (.pointer _) rfl (by kernel_rfl) (of_decide_eq_true (by kernel_rfl)) (by kernel_rfl) rfl ?_) | (refine wpList_mstore rfl _ _ _ rfl rfl _ _ rfl 0 H _ _ rfl (.string _) rfl (by kernel_rfl) (of_decide_eq_true (by kernel_rfl)) (by kernel_rfl) rfl ?_) | (refine wpList_mstore rfl _ _ _ rfl rfl _ _ rfl 0 H _ _ rfl (.slice _ _ _) rfl (by kernel_rfl) (of_decide_eq_true (by kernel_rfl)) (by kernel_rfl) rfl ?_)); clear H; intro w1 H; simp only [List.set_cons_zero, List.set_cons_succ] at H))
  go_ret2
  exact ⟨rfl, H.toBelow⟩
set_option maxHeartbeats 2000000 in
theorem rprg_7 (m : Mp) (ok : m.oct) (s a : Int) (w : World) (a0 : 32768 ≤ a) (a1 : a < 65536) (hm : mayB m = true) (hs : prgOk s = true) (hk : m.k = 7) : Calls Try.prog 10 #[mpV m, .int .i64 s, .int .u16 a] w fun e w' => e = .returned (.tuple #[.int .i64 (inP m s a), .int .i64 0]) ∧ Below w.heap.size w w' := by
  obtain ⟨osh, oct, ocl, oc0, oc1, opr, obk, ose, omi, or0, or1, or2, or3, or4, or5, or6, or7, olt, ocn⟩ := ok
  obtain ⟨z0, z1⟩ := prg_sizes hs
  have E : plR s (m.bk % 8) 32768 a = inP m s a := by
    unfold inP pBanks
    rw [if_neg (by omega), if_neg (by omega), if_neg (by omega), if_pos hk]
    exact pl_whole _ hs a0 a1
  rw [← E]
  have KM := fun wr => rmay6_ct m wr
  have KS := fun wr => rsizp_ct s wr
  rw [hm] at KM
  rw [hs] at KS
  have QM := Lib.hid KM
  have QS := Lib.hid KS
  have QP := Lib.hid (fun wr => rplace_ct s (m.bk % 8) 32768 a wr (by omega) (by omega) (by omega) (by omega) (by omega) (by omega) (by omega) (by omega))
  have d : decide (a < 32768) = false := by simpa using a0
  have ts1 := tdivn (x := s) (y := 16384) (by omega)
  have ts2 := tdivn (x := s) (y := 8192) (by omega)
  have x0 := obk.1
  have x1 := obk.2
  have u1 := rem16 (x := m.bk) (y := 8) x0
  have H := Mem.start w
  unfold mpV at *
  have e1 : (m.k == 1) = false := by rw [hk]; rfl
  have e2 : (m.k == 2) = false := by rw [hk]; rfl
  have e4 : (m.k == 4) = false := by rw [hk]; rfl
  have e7 : (m.k == 7) = true := by rw [hk]; rfl
  clear E KM KS hm hs
  go_enter Try.func10, Try.ntmps10
  go_wp2_with (first
    | (go_at_call 18; (with_reducible refine (QM.out _).mono ?_); rintro e w2 ⟨rfl, hB⟩; replace H := H.next hB; clear hB)
    | (go_at_call 14; (with_reducible refine (QS.out _).mono ?_); rintro e w2 ⟨rfl, rfl⟩)
    | (go_at_call 19; (with_reducible refine (QP.out _).mono ?_); rintro e w2 ⟨rfl, hB⟩; replace H := H.next hB; clear hB)
    | go_skip | (refine wpList_mboxA rfl _ _ rfl H _ rfl ?_; clear H; intro _ w1 _ H) | (refine gate_load _ _ rfl ?_; first | (refine wpList_mloadA rfl _ _ rfl _ rfl 0 H _ rfl (by decide +kernel) (by kernel_rfl) ?_) | (refine wpList_mload1 rfl _ _ rfl _ _ rfl 0 H _ (.int _ _) rfl rfl (by decide +kernel) ?_) | (refine wpList_mload1 rfl _ _ rfl _ _ rfl 0 H _ (.bool _) rfl rfl (by decide +kernel) ?_) | (refine wpList_mload1 rfl _ _ rfl _ _ rfl 0 H _ (.pointer _) rfl rfl (by decide +kernel) ?_) | (refine wpList_mload1 rfl _ _ rfl _ _ rfl 0 H _ (.string _) rfl rfl (by decide +kernel) ?_) | (refine wpList_mload1 rfl _ _ rfl _ _ rfl 0 H _ (.slice _ _ _) rfl rfl (by decide +kernel) ?_)) | (refine gate_store _ _ _ rfl ?_; (first | (refine wpList_mstoreA rfl _ _ _ rfl rfl _ rfl 0 H _ _ rfl rfl (by kernel_rfl) (by kernel_rfl) (by kernel_rfl) ?_) | (refine wpList_mstore rfl _ _ _ rfl rfl _ _ rfl 0 H _ _ rfl (.int _ _) rfl (by kernel_rfl) (of_decide_eq_true (by kernel_rfl)) (by kernel_rfl) rfl ?_) | (refine wpList_mstore rfl _ _ _ rfl rfl _ _ rfl 0 H _ _ rfl (.bool _) rfl (by kernel_rfl) (of_decide_eq_true (by kernel_rfl)) (by kernel_rfl) rfl ?_) | (refine wpList_mstore rfl _ _ _ rfl rfl _ _ rfl 0 H _ _ rfl (.pointer _) rfl (by kernel_rfl) (of_decide_eq_true (by kernel_rfl)) (by kernel_rfl) rfl ?_) | (refine wpList_mstore rfl _ _ _ rfl rfl _ _ rfl 0 H _ _ rfl (.string _) rfl (by kernel_rfl) (of_decide_eq_true (by kernel_rfl)) (by kernel_rfl) rfl ?_) | (refine wpList_mstore rfl _ _ _ rfl rfl _ _ rfl 0 H _ _ rfl (.slice _ _ _) rfl (by kernel_rfl) (of_decide_eq_true (by kernel_rfl)) (by kernel_rfl) rfl ?_)); clear H; intro w1 H; simp only [List.set_cons_zero, List.set_cons_succ] at H))
  go_ret2
  exact ⟨rfl, H.toBelow⟩
set_option maxHeartbeats 2000000 in
theorem rprg_0 (m : Mp) (ok : m.oct) (s a : Int) (w : World) (a0 : 32768 ≤ a) (a1 : a < 65536) (hm : mayB m = true) (hs : prgOk s = true) (hk : ¬ m.k = 1 ∧ ¬ m.k = 2 ∧ ¬ m.k = 4 ∧ ¬ m.k = 7) : Calls Try.prog 10 #[mpV m, .int .i64 s, .int .u16 a] w fun e w' => e = .returned (.tuple #[.int .i64 (inP m s a), .int .i64 0]) ∧ Below w.heap.size w w' := by
  obtain ⟨osh, oct, ocl, oc0, oc1, opr, obk, ose, omi, or0, or1, or2, or3, or4, or5, or6, or7, olt, ocn⟩ := ok
  obtain ⟨z0, z1⟩ := prg_sizes hs
  have E : (a - 32768) % s = inP m s a := by
    unfold inP pBanks
    rw [if_neg (by omega), if_neg (by omega), if_neg (by omega), if_neg (by omega)]
    exact pl_none hs a0 a1
  rw [← E]
  have tq := rem16 (x := a - 32768) (y := s) (by omega)
  have zs : (s == 0) = false := by simp; omega
  have zn : s ≠ 0 := by omega
  have KM := fun wr => rmay6_ct m wr
  have KS := fun wr => rsizp_ct s wr
  rw [hm] at KM
  rw [hs] at KS
  have QM := Lib.hid KM
  have QS := Lib.hid KS
  have d : decide (a < 32768) = false := by simpa using a0
  have ts1 := tdivn (x := s) (y := 16384) (by omega)
  have ts2 := tdivn (x := s) (y := 8192) (by omega)
  have H := Mem.start w
  unfold mpV at *
  have e1 : (m.k == 1) = false := by simp; omega
  have e2 : (m.k == 2) = false := by simp; omega
  have e4 : (m.k == 4) = false := by simp; omega
  have e7 : (m.k == 7) = false := by simp; omega
  clear E KM KS hm hs
  go_enter Try.func10, Try.ntmps10
  go_wp2_with (first
    | (go_at_call 18; (with_reducible refine (QM.out _).mono ?_); rintro e w2 ⟨rfl, hB⟩; replace H := H.next hB; clear hB)
    | (go_at_call 14; (with_reducible refine (QS.out _).mono ?_); rintro e w2 ⟨rfl, rfl⟩)
    | go_skip | (refine wpList_mboxA rfl _ _ rfl H _ rfl ?_; clear H; intro _ w1 _ H) | (refine gate_load _ _ rfl ?_; first | (refine wpList_mloadA rfl _ _ rfl _ rfl 0 H _ rfl (by decide +kernel) (by kernel_rfl) ?_) | (refine wpList_mload1 rfl _ _ rfl _ _ rfl 0 H _ (.int _ _) rfl rfl (by decide +kernel) ?_) | (refine wpList_mload1 rfl _ _ rfl _ _ rfl 0 H _ (.bool _) rfl rfl (by decide +kernel) ?_) | (refine wpList_mload1 rfl _ _ rfl _ _ rfl 0 H _ (.pointer _) rfl rfl (by decide +kernel) ?_) | (refine wpList_mload1 rfl _ _ rfl _ _ rfl 0 H _ (.string _) rfl rfl (by decide +kernel) ?_) | (refine wpList_mload1 rfl _ _ rfl _ _ rfl 0 H _ (.slice _ _ _) rfl rfl (by decide +kernel) ?_)) | (refine gate_store _ _ _ rfl ?_; (first | (refine wpList_mstoreA rfl _ _ _ rfl rfl _ rfl 0 H _ _ rfl rfl (by kernel_rfl) (by kernel_rfl) (by kernel_rfl) ?_) | (refine wpList_mstore rfl _ _ _ rfl rfl _ _ rfl 0 H _ _ rfl (.int _ _) rfl (by kernel_rfl) (of_decide_eq_true (by kernel_rfl)) (by kernel_rfl) rfl ?_) | (refine wpList_mstore rfl _ _ _ rfl rfl _ _ rfl 0 H _ _ rfl (.bool _) rfl (by kernel_rfl) (of_decide_eq_true (by kernel_rfl)) (by kernel_rfl) rfl ?_) | (refine wpList_mstore rfl _ _ _ rfl rfl _ _ rfl 0 H _ _ rfl (.pointer _) rfl (by kernel_rfl) (of_decide_eq_true (by kernel_rfl)) (by kernel_rfl) rfl ?_) | (refine wpList_mstore rfl _ _ _ rfl rfl _ _ rfl 0 H _ _ rfl (.string _) rfl (by kernel_rfl) (of_decide_eq_true (by kernel_rfl)) (by kernel_rfl) rfl ?_) | (refine wpList_mstore rfl _ _ _ rfl rfl _ _ rfl 0 H _ _ rfl (.slice _ _ _) rfl (by kernel_rfl) (of_decide_eq_true (by kernel_rfl)) (by kernel_rfl) rfl ?_)); clear H; intro w1 H; simp only [List.set_cons_zero, List.set_cons_succ] at H))
  go_ret2
  exact ⟨rfl, H.toBelow⟩
theorem rprg_ct (m : Mp) (ok : m.oct) (s a : Int) (w : World) (a0 : 0 ≤ a) (a1 : a < 65536) : Calls Try.prog 10 #[mpV m, .int .i64 s, .int .u16 a] w fun e w' => e = .returned (.tuple #[.int .i64 (prgV m s a), .int .i64 (errN (okP m s a))]) ∧ Below w.heap.size w w' := by
  unfold prgV
  cases h : okP m s a
  · exact rprg_no m s a w a0 a1 h
  · have h' := h
    unfold okP at h'
    simp only [Bool.and_eq_true, decide_eq_true_eq] at h'
    obtain ⟨⟨hm, hs⟩, ha⟩ := h'
    show Calls _ _ _ _ fun e w' => e = .returned (.tuple #[.int .i64 (inP m s a), .int .i64 0]) ∧ _
    have oc := ok
    obtain ⟨osh, oct, ocl, oc0, oc1, opr, obk, ose, omi, or0, or1, or2, or3, or4, or5, or6, or7, olt, ocn⟩ := oc
    by_cases k1 : m.k = 1
    · have hc : m.cl / 4 % 4 = 0 ∨ m.cl / 4 % 4 = 1 ∨ m.cl / 4 % 4 = 2 ∨ m.cl / 4 % 4 = 3 := by omega
      rcases hc with hc | hc | hc | hc
      · exact rprg_10 m ok s a w ha a1 hm hs k1 hc
      · exact rprg_11 m ok s a w ha a1 hm hs k1 hc
      · rcases Int.lt_or_le a 49152 with hq | hq
        · exact rprg_12l m ok s a w ha a1 hm hs k1 hc hq
        · exact rprg_12h m ok s a w ha a1 hm hs k1 hc hq
      · rcases Int.lt_or_le a 49152 with hq | hq
        · exact rprg_13l m ok s a w ha a1 hm hs k1 hc hq
        · exact rprg_13h m ok s a w ha a1 hm hs k1 hc hq
    by_cases k2 : m.k = 2
    · rcases Int.lt_or_le a 49152 with hq | hq
      · exact rprg_2l m ok s a w ha a1 hm hs k2 hq
      · exact rprg_2h m ok s a w ha a1 hm hs k2 hq
    by_cases k4 : m.k = 4
    · have hb : m.se / 64 % 2 = 0 ∨ m.se / 64 % 2 = 1 := by omega
      have hq : (a - 32768) / 8192 = 0 ∨ (a - 32768) / 8192 = 1 ∨ (a - 32768) / 8192 = 2 ∨ (a - 32768) / 8192 = 3 := by omega
      rcases hb with hb | hb <;> rcases hq with hq | hq | hq | hq
      · exact rprg_400 m ok s a w ha a1 hm hs k4 hb hq
      · exact rprg_401 m ok s a w ha a1 hm hs k4 hb hq
      · exact rprg_402 m ok s a w ha a1 hm hs k4 hb hq
      · exact rprg_403 m ok s a w ha a1 hm hs k4 hb hq
      · exact rprg_410 m ok s a w ha a1 hm hs k4 hb hq
      · exact rprg_411 m ok s a w ha a1 hm hs k4 hb hq
      · exact rprg_412 m ok s a w ha a1 hm hs k4 hb hq
      · exact rprg_413 m ok s a w ha a1 hm hs k4 hb hq
    by_cases k7 : m.k = 7
    · exact rprg_7 m ok s a w ha a1 hm hs k7
    · exact rprg_0 m ok s a w ha a1 hm hs ⟨k1, k2, k4, k7⟩
end Go.Proofs.Ytodmhmkbiafahaa
