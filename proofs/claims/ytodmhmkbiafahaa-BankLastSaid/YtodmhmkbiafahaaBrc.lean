/-
  The document's Chr of banks: a place in the picture's memory. Over this seat's translation; octets are from 0 to 255, addresses from 0 to 65535.
-/
import Derived.Test.YtodmhmkbiafahaaBrp
import Derived.Test.YtodmhmkbiafahaaBcc
namespace Go.Proofs.Ytodmhmkbiafahaa
open Go.RowKit
set_option linter.unusedSimpArgs false
set_option linter.unusedVariables false
set_option maxRecDepth 20000

set_option maxHeartbeats 2000000 in
theorem rchr_no (m : Mp) (s a : Int) (w : World) (a0 : 0 ≤ a) (a1 : a < 65536) (h : okC m s a = false) : Calls Try.prog 12 #[mpV m, .int .i64 s, .int .u16 a] w fun e w' => e = .returned (.tuple #[.int .i64 0, .int .i64 1]) ∧ Below w.heap.size w w' := by
  have KM := fun wr => rmay6_ct m wr
  have KS := fun wr => rsizc_ct s wr
  have H := Mem.start w
  unfold okC at h
  unfold mpV at *
  cases hm : mayB m
  · rw [hm] at KM
    have QM := Lib.hid KM
    have QS := Lib.hid KS
    clear h hm KM KS
    go_enter Try.func12, Try.ntmps12
    go_wp2_with (first
      | (go_at_call 18; (with_reducible refine (QM.out _).mono ?_); rintro e w2 ⟨rfl, hB⟩; replace H := H.next hB; clear hB)
      | (go_at_call 14; (with_reducible refine (QS.out _).mono ?_); rintro e w2 ⟨rfl, rfl⟩)
      | go_skip | (refine wpList_mboxA rfl _ _ rfl H _ rfl ?_; clear H; intro _ w1 _ H) | (refine gate_load _ _ rfl ?_; first | (refine wpList_mloadA rfl _ _ rfl _ rfl 0 H _ rfl (by decide +kernel) (by kernel_rfl) ?_) | (refine wpList_mload1 rfl _ _ rfl _ _ rfl 0 H _ (.int _ _) rfl rfl (by decide +kernel) ?_) | (refine wpList_mload1 rfl _ _ rfl _ _ rfl 0 H _ (.bool _) rfl rfl (by decide +kernel) ?_) | (refine wpList_mload1 rfl _ _ rfl _ _ rfl 0 H _ (.pointer _) rfl rfl (by decide +kernel) ?_) | (refine wpList_mload1 rfl _ _ rfl _ _ rfl 0 H _ (.string _) rfl rfl (by decide +kernel) ?_) | (refine wpList_mload1 rfl _ _ rfl _ _ rfl 0 H _ (.slice _ _ _) rfl rfl (by decide +kernel) ?_)) | (refine gate_store _ _ _ rfl ?_; (first | (refine wpList_mstoreA rfl _ _ _ rfl rfl _ rfl 0 H _ _ rfl rfl (by kernel_rfl) (by kernel_rfl) (by kernel_rfl) ?_) | (refine wpList_mstore rfl _ _ _ rfl rfl _ _ rfl 0 H _ _ rfl (.int _ _) rfl (by kernel_rfl) (of_decide_eq_true (by kernel_rfl)) (by kernel_rfl) rfl ?_) | (refine wpList_mstore rfl _ _ _ rfl rfl _ _ rfl 0 H _ _ rfl (.bool _) rfl (by kernel_rfl) (of_decide_eq_true (by kernel_rfl)) (by kernel_rfl) rfl ?_) | (refine wpList_mstore rfl _ _ _ rfl rfl _ _ rfl 0 H _ _ rfl (.pointer _) rfl (by kernel_rfl) (of_decide_eq_true (by kernel_rfl)) (by kernel_rfl) rfl ?_) | (refine wpList_mstore rfl _ _ _ rfl rfl _ _ rfl 0 H _ _ rfl (.string _) rfl (by kernel_rfl) (of_decide_eq_true (by kernel_rfl)) (by kernel_rfl) rfl ?_) | (refine wpList_mstore rfl _ _ _ rfl rfl _ _ rfl 0 H _ _ rfl (.slice _ _ _) rfl (by kernel_rfl) (of_decide_eq_true (by kernel_rfl)) (by kernel_rfl) rfl ?_)); clear H; intro w1 H; simp only [List.set_cons_zero, List.set_cons_succ] at H))
    go_ret2
    exact ⟨rfl, H.toBelow⟩
  cases hs : chrOk s
  · rw [hm] at KM
    rw [hs] at KS
    have QM := Lib.hid KM
    have QS := Lib.hid KS
    clear h hm hs KM KS
    go_enter Try.func12, Try.ntmps12
    go_wp2_with (first
      | (go_at_call 18; (with_reducible refine (QM.out _).mono ?_); rintro e w2 ⟨rfl, hB⟩; replace H := H.next hB; clear hB)
      | (go_at_call 14; (with_reducible refine (QS.out _).mono ?_); rintro e w2 ⟨rfl, rfl⟩)
      | go_skip | (refine wpList_mboxA rfl _ _ rfl H _ rfl ?_; clear H; intro _ w1 _ H) | (refine gate_load _ _ rfl ?_; first | (refine wpList_mloadA rfl _ _ rfl _ rfl 0 H _ rfl (by decide +kernel) (by kernel_rfl) ?_) | (refine wpList_mload1 rfl _ _ rfl _ _ rfl 0 H _ (.int _ _) rfl rfl (by decide +kernel) ?_) | (refine wpList_mload1 rfl _ _ rfl _ _ rfl 0 H _ (.bool _) rfl rfl (by decide +kernel) ?_) | (refine wpList_mload1 rfl _ _ rfl _ _ rfl 0 H _ (.pointer _) rfl rfl (by decide +kernel) ?_) | (refine wpList_mload1 rfl _ _ rfl _ _ rfl 0 H _ (.string _) rfl rfl (by decide +kernel) ?_) | (refine wpList_mload1 rfl _ _ rfl _ _ rfl 0 H _ (.slice _ _ _) rfl rfl (by decide +kernel) ?_)) | (refine gate_store _ _ _ rfl ?_; (first | (refine wpList_mstoreA rfl _ _ _ rfl rfl _ rfl 0 H _ _ rfl rfl (by kernel_rfl) (by kernel_rfl) (by kernel_rfl) ?_) | (refine wpList_mstore rfl _ _ _ rfl rfl _ _ rfl 0 H _ _ rfl (.int _ _) rfl (by kernel_rfl) (of_decide_eq_true (by kernel_rfl)) (by kernel_rfl) rfl ?_) | (refine wpList_mstore rfl _ _ _ rfl rfl _ _ rfl 0 H _ _ rfl (.bool _) rfl (by kernel_rfl) (of_decide_eq_true (by kernel_rfl)) (by kernel_rfl) rfl ?_) | (refine wpList_mstore rfl _ _ _ rfl rfl _ _ rfl 0 H _ _ rfl (.pointer _) rfl (by kernel_rfl) (of_decide_eq_true (by kernel_rfl)) (by kernel_rfl) rfl ?_) | (refine wpList_mstore rfl _ _ _ rfl rfl _ _ rfl 0 H _ _ rfl (.string _) rfl (by kernel_rfl) (of_decide_eq_true (by kernel_rfl)) (by kernel_rfl) rfl ?_) | (refine wpList_mstore rfl _ _ _ rfl rfl _ _ rfl 0 H _ _ rfl (.slice _ _ _) rfl (by kernel_rfl) (of_decide_eq_true (by kernel_rfl)) (by kernel_rfl) rfl ?_)); clear H; intro w1 H; simp only [List.set_cons_zero, List.set_cons_succ] at H))
    go_ret2
    exact ⟨rfl, H.toBelow⟩
  rw [hm] at KM
  rw [hs] at KS
  have QM := Lib.hid KM
  have QS := Lib.hid KS
  rw [hm, hs] at h
  have d : decide (8191 < a) = true := by simp at h ⊢; omega
  clear h hm hs KM KS
  go_enter Try.func12, Try.ntmps12
  go_wp2_with (first
    | (go_at_call 18; (with_reducible refine (QM.out _).mono ?_); rintro e w2 ⟨rfl, hB⟩; replace H := H.next hB; clear hB)
    | (go_at_call 14; (with_reducible refine (QS.out _).mono ?_); rintro e w2 ⟨rfl, rfl⟩)
    | go_skip | (refine wpList_mboxA rfl _ _ rfl H _ rfl ?_; clear H; intro _ w1 _ H) | (refine gate_load _ _ rfl ?_; first | (refine wpList_mloadA rfl _ _ rfl _ rfl 0 H _ rfl (by decide +kernel) (by kernel_rfl) ?_) | (refine wpList_mload1 rfl _ _ rfl _ _ rfl 0 H _ (.int _ _) rfl rfl (by decide +kernel) ?_) | (refine wpList_mload1 rfl _ _ rfl _ _ rfl 0 H _ (.bool _) rfl rfl (by decide +kernel) ?_) | (refine wpList_mload1 rfl _ _ rfl _ _ rfl 0 H _ (.pointer _) rfl rfl (by decide +kernel) ?_) | (refine wpList_mload1 rfl _ _ rfl _ _ rfl 0 H _ (.string _) rfl rfl (by decide +kernel) ?_) | (refine wpList_mload1 rfl _ _ rfl _ _ rfl 0 H _ (.slice _ _ _) rfl rfl (by decide +kernel) ?_)) | (refine gate_store _ _ _ rfl ?_; (first | (refine wpList_mstoreA rfl _ _ _ rfl rfl _ rfl 0 H _ _ rfl rfl (by kernel_rfl) (by kernel_rfl) (by kernel_rfl) ?_) | (refine wpList_mstore rfl _ _ _ rfl rfl _ _ rfl 0 H _ _ rfl (.int _ _) rfl (by kernel_rfl) (of_decide_eq_true (by kernel_rfl)) (by kernel_rfl) rfl ?_) | (refine wpList_mstore rfl _ _ _ rfl rfl _ _ rfl 0 H _ _ rfl (.bool _) rfl (by kernel_rfl) (of_decide_eq_true (by kernel_rfl)) (by kernel_rfl) rfl ?_) | (refine wpList_mstore rfl _ _ _ rfl rfl _ _ rfl 0 H _ _ rfl (.pointer _) rfl (by kernel_rfl) (of_decide_eq_true (by kernel_rfl)) (by kernel_rfl) rfl ?_) | (refine wpList_mstore rfl _ _ _ rfl rfl _ _ rfl 0 H _ _ rfl (.string _) rfl (by kernel_rfl) (of_decide_eq_true (by kernel_rfl)) (by kernel_rfl) rfl ?_) | (refine wpList_mstore rfl _ _ _ rfl rfl _ _ rfl 0 H _ _ rfl (.slice _ _ _) rfl (by kernel_rfl) (of_decide_eq_true (by kernel_rfl)) (by kernel_rfl) rfl ?_)); clear H; intro w1 H; simp only [List.set_cons_zero, List.set_cons_succ] at H))
  go_ret2
  exact ⟨rfl, H.toBelow⟩
set_option maxHeartbeats 2000000 in
theorem rchr_10 (m : Mp) (ok : m.oct) (s a : Int) (w : World) (a0 : 0 ≤ a) (a1 : a < 8192) (hm : mayB m = true) (hs : chrOk s = true) (hk : m.k = 1) (hc : m.cl / 16 % 2 = 0) : Calls Try.prog 12 #[mpV m, .int .i64 s, .int .u16 a] w fun e w' => e = .returned (.tuple #[.int .i64 (inC m s a), .int .i64 0]) ∧ Below w.heap.size w w' := by
  obtain ⟨osh, oct, ocl, oc0, oc1, opr, obk, ose, omi, or0, or1, or2, or3, or4, or5, or6, or7, olt, ocn⟩ := ok
  obtain ⟨z0, z1⟩ := chr_sizes hs
  have E : plR s (m.c0 / 2) 8192 a = inC m s a := by
    unfold inC cBanks
    rw [if_pos hk, if_neg (by omega)]
    exact cl_whole _ hs a0 a1
  rw [← E]
  have KM := fun wr => rmay6_ct m wr
  have KS := fun wr => rsizc_ct s wr
  rw [hm] at KM
  rw [hs] at KS
  have QM := Lib.hid KM
  have QS := Lib.hid KS
  have QP := Lib.hid (fun wr => rplace_ct s (m.c0 / 2) 8192 a wr (by omega) (by omega) (by omega) (by omega) (by omega) (by omega) (by omega) (by omega))
  have d : decide (8191 < a) = false := by simp; omega
  have x0 := oc0.1
  have x1 := oc0.2
  have x2 := oc1.1
  have x3 := oc1.2
  have y0 := ocl.1
  have y1 := ocl.2
  have u2 := tdivn (x := m.cl) (y := 16) y0
  have u3 := rem16 (x := m.cl / 16) (y := 2) (by omega)
  rw [hc] at u3
  have u4 := tdivn (x := m.c0) (y := 2) x0
  have H := Mem.start w
  unfold mpV at *
  have e1 : (m.k == 1) = true := by rw [hk]; rfl
  have e3 : (m.k == 3) = false := by rw [hk]; rfl
  have e4 : (m.k == 4) = false := by rw [hk]; rfl
  clear E KM KS hm hs
  go_enter Try.func12, Try.ntmps12
  go_wp2_with (first
    | (go_at_call 18; (with_reducible refine (QM.out _).mono ?_); rintro e w2 ⟨rfl, hB⟩; replace H := H.next hB; clear hB)
    | (go_at_call 14; (with_reducible refine (QS.out _).mono ?_); rintro e w2 ⟨rfl, rfl⟩)
    | (go_at_call 19; (with_reducible refine (QP.out _).mono ?_); rintro e w2 ⟨rfl, hB⟩; replace H := H.next hB; clear hB)
    | go_skip | (refine wpList_mboxA rfl _ _ rfl H _ rfl ?_; clear H; intro _ w1 _ H) | (refine gate_load _ _ rfl ?_; first | (refine wpList_mloadA rfl _ _ rfl _ rfl 0 H _ rfl (by decide +kernel) (by kernel_rfl) ?_) | (refine wpList_mload1 rfl _ _ rfl _ _ rfl 0 H _ (.int _ _) rfl rfl (by decide +kernel) ?_) | (refine wpList_mload1 rfl _ _ rfl _ _ rfl 0 H _ (.bool _) rfl rfl (by decide +kernel) ?_) | (refine wpList_mload1 rfl _ _ rfl _ _ rfl 0 H _ (.pointer _) rfl rfl (by decide +kernel) ?_) | (refine wpList_mload1 rfl _ _ rfl _ _ rfl 0 H _ (.string _) rfl rfl (by decide +kernel) ?_) | (refine wpList_mload1 rfl _ _ rfl _ _ rfl 0 H _ (.slice _ _ _) rfl rfl (by decide +kernel) ?_)) | (refine gate_store _ _ _ rfl ?_; (first | (refine wpList_mstoreA rfl _ _ _ rfl rfl _ rfl 0 H _ _ rfl rfl (by kernel_rfl) (by kernel_rfl) (by kernel_rfl) ?_) | (refine wpList_mstore rfl _ _ _ rfl rfl _ _ rfl 0 H _ _ rfl (.int _ _) rfl (by kernel_rfl) (of_decide_eq_true (by kernel_rfl)) (by kernel_rfl) rfl ?_) | (refine wpList_mstore rfl _ _ _ rfl rfl _ _ rfl 0 H _ _ rfl (.bool _) rfl (by kernel_rfl) (of_decide_eq_true (by kernel_rfl)) (by kernel_rfl) rfl ?_) | (refine wpList_mstore rfl _ _ _ rfl rfl _ _ rfl 0 H _ _ rfl (.pointer _) rfl (by kernel_rfl) (of_decide_eq_true (by kernel_rfl)) (by kernel_rfl) rfl ?_) | (refine wpList_mstore rfl _ _ _ rfl rfl _ _ rfl 0 H _ _ rfl (.string _) rfl (by kernel_rfl) (of_decide_eq_true (by kernel_rfl)) (by kernel_rfl) rfl ?_) | (refine wpList_mstore rfl _ _ _ rfl rfl _ _ rfl 0 H _ _ rfl (.slice _ _ _) rfl (by kernel_rfl) (of_decide_eq_true (by kernel_rfl)) (by kernel_rfl) rfl ?_)); clear H; intro w1 H; simp only [List.set_cons_zero, List.set_cons_succ] at H))
  go_ret2
  exact ⟨rfl, H.toBelow⟩
set_option maxHeartbeats 2000000 in
theorem rchr_11l (m : Mp) (ok : m.oct) (s a : Int) (w : World) (a0 : 0 ≤ a) (a1 : a < 8192) (hm : mayB m = true) (hs : chrOk s = true) (hk : m.k = 1) (hc : m.cl / 16 % 2 = 1) (hq : a < 4096) : Calls Try.prog 12 #[mpV m, .int .i64 s, .int .u16 a] w fun e w' => e = .returned (.tuple #[.int .i64 (inC m s a), .int .i64 0]) ∧ Below w.heap.size w w' := by
  obtain ⟨osh, oct, ocl, oc0, oc1, opr, obk, ose, omi, or0, or1, or2, or3, or4, or5, or6, or7, olt, ocn⟩ := ok
  obtain ⟨z0, z1⟩ := chr_sizes hs
  have E : plR s (m.c0) 4096 a = inC m s a := by
    unfold inC cBanks
    rw [if_pos hk, if_pos hc]
    exact cl_low m.c0 m.c1 hs a0 hq
  rw [← E]
  have KM := fun wr => rmay6_ct m wr
  have KS := fun wr => rsizc_ct s wr
  rw [hm] at KM
  rw [hs] at KS
  have QM := Lib.hid KM
  have QS := Lib.hid KS
  have QP := Lib.hid (fun wr => rplace_ct s (m.c0) 4096 a wr (by omega) (by omega) (by omega) (by omega) (by omega) (by omega) (by omega) (by omega))
  have d : decide (8191 < a) = false := by simp; omega
  have x0 := oc0.1
  have x1 := oc0.2
  have x2 := oc1.1
  have x3 := oc1.2
  have y0 := ocl.1
  have y1 := ocl.2
  have u2 := tdivn (x := m.cl) (y := 16) y0
  have u3 := rem16 (x := m.cl / 16) (y := 2) (by omega)
  rw [hc] at u3
  have u4 := tdivn (x := m.c0) (y := 2) x0
  have dq : decide (a < 4096) = true := by simpa using hq
  have H := Mem.start w
  unfold mpV at *
  have e1 : (m.k == 1) = true := by rw [hk]; rfl
  have e3 : (m.k == 3) = false := by rw [hk]; rfl
  have e4 : (m.k == 4) = false := by rw [hk]; rfl
  clear E KM KS hm hs
  go_enter Try.func12, Try.ntmps12
  go_wp2_with (first
    | (go_at_call 18; (with_reducible refine (QM.out _).mono ?_); rintro e w2 ⟨rfl, hB⟩; replace H := H.next hB; clear hB)
    | (go_at_call 14; (with_reducible refine (QS.out _).mono ?_); rintro e w2 ⟨rfl, rfl⟩)
    | (go_at_call 19; (with_reducible refine (QP.out _).mono ?_); rintro e w2 ⟨rfl, hB⟩; replace H := H.next hB; clear hB)
    | go_skip | (refine wpList_mboxA rfl _ _ rfl H _ rfl ?_; clear H; intro _ w1 _ H) | (refine gate_load _ _ rfl ?_; first | (refine wpList_mloadA rfl _ _ rfl _ rfl 0 H _ rfl (by decide +kernel) (by kernel_rfl) ?_) | (refine wpList_mload1 rfl _ _ rfl _ _ rfl 0 H _ (.int _ _) rfl rfl (by decide +kernel) ?_) | (refine wpList_mload1 rfl _ _ rfl _ _ rfl 0 H _ (.bool _) rfl rfl (by decide +kernel) ?_) | (refine wpList_mload1 rfl _ _ rfl _ _ rfl 0 H _ (.pointer _) rfl rfl (by decide +kernel) ?_) | (refine wpList_mload1 rfl _ _ rfl _ _ rfl 0 H _ (.string _) rfl rfl (by decide +kernel) ?_) | (refine wpList_mload1 rfl _ _ rfl _ _ rfl 0 H _ (.slice _ _ _) rfl rfl (by decide +kernel) ?_)) | (refine gate_store _ _ _ rfl ?_; (first | (refine wpList_mstoreA rfl _ _ _ rfl rfl _ rfl 0 H _ _ rfl rfl (by kernel_rfl) (by kernel_rfl) (by kernel_rfl) ?_) | (refine wpList_mstore rfl _ _ _ rfl rfl _ _ rfl 0 H _ _ rfl (.int _ _) rfl (by kernel_rfl) (of_decide_eq_true (by kernel_rfl)) (by kernel_rfl) rfl ?_) | (refine wpList_mstore rfl _ _ _ rfl rfl _ _ rfl 0 H _ _ rfl (.bool _) rfl (by kernel_rfl) (of_decide_eq_true (by kernel_rfl)) (by kernel_rfl) rfl ?_) | (refine wpList_mstore rfl _ _ _ rfl rfl _ _ rfl 0 H _ _ rfl (.pointer _) rfl (by kernel_rfl) (of_decide_eq_true (by kernel_rfl)) (by kernel_rfl) rfl ?_) | (refine wpList_mstore rfl _ _ _ rfl rfl _ _ rfl 0 H _ _ rfl (.string _) rfl (by kernel_rfl) (of_decide_eq_true (by kernel_rfl)) (by kernel_rfl) rfl ?_) | (refine wpList_mstore rfl _ _ _ rfl rfl _ _ rfl 0 H _ _ rfl (.slice _ _ _) rfl (by kernel_rfl) (of_decide_eq_true (by kernel_rfl)) (by kernel_rfl) rfl ?_)); clear H; intro w1 H; simp only [List.set_cons_zero, List.set_cons_succ] at H))
  go_ret2
  exact ⟨rfl, H.toBelow⟩
set_option maxHeartbeats 2000000 in
theorem rchr_11h (m : Mp) (ok : m.oct) (s a : Int) (w : World) (a0 : 0 ≤ a) (a1 : a < 8192) (hm : mayB m = true) (hs : chrOk s = true) (hk : m.k = 1) (hc : m.cl / 16 % 2 = 1) (hq : 4096 ≤ a) : Calls Try.prog 12 #[mpV m, .int .i64 s, .int .u16 a] w fun e w' => e = .returned (.tuple #[.int .i64 (inC m s a), .int .i64 0]) ∧ Below w.heap.size w w' := by
  obtain ⟨osh, oct, ocl, oc0, oc1, opr, obk, ose, omi, or0, or1, or2, or3, or4, or5, or6, or7, olt, ocn⟩ := ok
  obtain ⟨z0, z1⟩ := chr_sizes hs
  have E : plR s (m.c1) 4096 a = inC m s a := by
    unfold inC cBanks
    rw [if_pos hk, if_pos hc]
    exact cl_high m.c0 m.c1 hs hq a1
  rw [← E]
  have KM := fun wr => rmay6_ct m wr
  have KS := fun wr => rsizc_ct s wr
  rw [hm] at KM
  rw [hs] at KS
  have QM := Lib.hid KM
  have QS := Lib.hid KS
  have QP := Lib.hid (fun wr => rplace_ct s (m.c1) 4096 a wr (by omega) (by omega) (by omega) (by omega) (by omega) (by omega) (by omega) (by omega))
  have d : decide (8191 < a) = false := by simp; omega
  have x0 := oc0.1
  have x1 := oc0.2
  have x2 := oc1.1
  have x3 := oc1.2
  have y0 := ocl.1
  have y1 := ocl.2
  have u2 := tdivn (x := m.cl) (y := 16) y0
  have u3 := rem16 (x := m.cl / 16) (y := 2) (by omega)
  rw [hc] at u3
  have u4 := tdivn (x := m.c0) (y := 2) x0
  have dq : decide (a < 4096) = false := by simpa using hq
  have H := Mem.start w
  unfold mpV at *
  have e1 : (m.k == 1) = true := by rw [hk]; rfl
  have e3 : (m.k == 3) = false := by rw [hk]; rfl
  have e4 : (m.k == 4) = false := by rw [hk]; rfl
  clear E KM KS hm hs
  go_enter Try.func12, Try.ntmps12
  go_wp2_with (first
    | (go_at_call 18; (with_reducible refine (QM.out _).mono ?_); rintro e w2 ⟨rfl, hB⟩; replace H := H.next hB; clear hB)
    | (go_at_call 14; (with_reducible refine (QS.out _).mono ?_); rintro e w2 ⟨rfl, rfl⟩)
    | (go_at_call 19; (with_reducible refine (QP.out _).mono ?_); rintro e w2 ⟨rfl, hB⟩; replace H := H.next hB; clear hB)
    | go_skip | (refine wpList_mboxA rfl _ _ rfl H _ rfl ?_; clear H; intro _ w1 _ H) | (refine gate_load _ _ rfl ?_; first | (refine wpList_mloadA rfl _ _ rfl _ rfl 0 H _ rfl (by decide +kernel) (by kernel_rfl) ?_) | (refine wpList_mload1 rfl _ _ rfl _ _ rfl 0 H _ (.int _ _) rfl rfl (by decide +kernel) ?_) | (refine wpList_mload1 rfl _ _ rfl _ _ rfl 0 H _ (.bool _) rfl rfl (by decide +kernel) ?_) | (refine wpList_mload1 rfl _ _ rfl _ _ rfl 0 H _ (.pointer _) rfl rfl (by decide +kernel) ?_) | (refine wpList_mload1 rfl _ _ rfl _ _ rfl 0 H _ (.string _) rfl rfl (by decide +kernel) ?_) | (refine wpList_mload1 rfl _ _ rfl _ _ rfl 0 H _ (.slice _ _ _) rfl rfl (by decide +kernel) ?_)) | (refine gate_store _ _ _ rfl ?_; (first | (refine wpList_mstoreA rfl _ _ _ rfl rfl _ rfl 0 H _ _ rfl rfl (by kernel_rfl) (by kernel_rfl) (by kernel_rfl) ?_) | (refine wpList_mstore rfl _ _ _ rfl rfl _ _ rfl 0 H _ _ rfl (.int _ _) rfl (by kernel_rfl) (of_decide_eq_true (by kernel_rfl)) (by kernel_rfl) rfl ?_) | (refine wpList_mstore rfl _ _ _ rfl rfl _ _ rfl 0 H _ _ rfl (.bool _) rfl (by kernel_rfl) (of_decide_eq_true (by kernel_rfl)) (by kernel_rfl) rfl ?_) | (refine wpList_mstore rfl _ _ _ rfl rfl _ _ rfl 0 H _ _ rfl (.pointer _) rfl (by kernel_rfl) (of_decide_eq_true (by kernel_rfl)) (by kernel_rfl) rfl ?_) | (refine wpList_mstore rfl _ _ _ rfl rfl _ _ rfl 0 H _ _ rfl (.string _) rfl (by kernel_rfl) (of_decide_eq_true (by kernel_rfl)) (by kernel_rfl) rfl ?_) | (refine wpList_mstore rfl _ _ _ rfl rfl _ _ rfl 0 H _ _ rfl (.slice _ _ _) rfl (by kernel_rfl) (of_decide_eq_true (by kernel_rfl)) (by kernel_rfl) rfl ?_)); clear H; intro w1 H; simp only [List.set_cons_zero, List.set_cons_succ] at H))
  go_ret2
  exact ⟨rfl, H.toBelow⟩
set_option maxHeartbeats 2000000 in
theorem rchr_3 (m : Mp) (ok : m.oct) (s a : Int) (w : World) (a0 : 0 ≤ a) (a1 : a < 8192) (hm : mayB m = true) (hs : chrOk s = true) (hk : m.k = 3) : Calls Try.prog 12 #[mpV m, .int .i64 s, .int .u16 a] w fun e w' => e = .returned (.tuple #[.int .i64 (inC m s a), .int .i64 0]) ∧ Below w.heap.size w w' := by
  obtain ⟨osh, oct, ocl, oc0, oc1, opr, obk, ose, omi, or0, or1, or2, or3, or4, or5, or6, or7, olt, ocn⟩ := ok
  obtain ⟨z0, z1⟩ := chr_sizes hs
  have E : plR s (m.bk) 8192 a = inC m s a := by
    unfold inC cBanks
    rw [if_neg (by omega), if_pos hk]
    exact cl_whole _ hs a0 a1
  rw [← E]
  have KM := fun wr => rmay6_ct m wr
  have KS := fun wr => rsizc_ct s wr
  rw [hm] at KM
  rw [hs] at KS
  have QM := Lib.hid KM
  have QS := Lib.hid KS
  have QP := Lib.hid (fun wr => rplace_ct s (m.bk) 8192 a wr (by omega) (by omega) (by omega) (by omega) (by omega) (by omega) (by omega) (by omega))
  have d : decide (8191 < a) = false := by simp; omega
  have x0 := obk.1
  have x1 := obk.2
  have H := Mem.start w
  unfold mpV at *
  have e1 : (m.k == 1) = false := by rw [hk]; rfl
  have e3 : (m.k == 3) = true := by rw [hk]; rfl
  have e4 : (m.k == 4) = false := by rw [hk]; rfl
  clear E KM KS hm hs
  go_enter Try.func12, Try.ntmps12
  go_wp2_with (first
    | (go_at_call 18; (with_reducible refine (QM.out _).mono ?_); rintro e w2 ⟨rfl, hB⟩; replace H := H.next hB; clear hB)
    | (go_at_call 14; (with_reducible refine (QS.out _).mono ?_); rintro e w2 ⟨rfl, rfl⟩)
    | (go_at_call 19; (with_reducible refine (QP.out _).mono ?_); rintro e w2 ⟨rfl, hB⟩; replace H := H.next hB; clear hB)
    | go_skip | (refine wpList_mboxA rfl _ _ rfl H _ rfl ?_; clear H; intro _ w1 _ H) | (refine gate_load _ _ rfl ?_; first | (refine wpList_mloadA rfl _ _ rfl _ rfl 0 H _ rfl (by decide +kernel) (by kernel_rfl) ?_) | (refine wpList_mload1 rfl _ _ rfl _ _ rfl 0 H _ (.int _ _) rfl rfl (by decide +kernel) ?_) | (refine wpList_mload1 rfl _ _ rfl _ _ rfl 0 H _ (.bool _) rfl rfl (by decide +kernel) ?_) | (refine wpList_mload1 rfl _ _ rfl _ _ rfl 0 H _ (.pointer _) rfl rfl (by decide +kernel) ?_) | (refine wpList_mload1 rfl _ _ rfl _ _ rfl 0 H _ (.string _) rfl rfl (by decide +kernel) ?_) | (refine wpList_mload1 rfl _ _ rfl _ _ rfl 0 H _ (.slice _ _ _) rfl rfl (by decide +kernel) ?_)) | (refine gate_store _ _ _ rfl ?_; (first | (refine wpList_mstoreA rfl _ _ _ rfl rfl _ rfl 0 H _ _ rfl rfl (by kernel_rfl) (by kernel_rfl) (by kernel_rfl) ?_) | (refine wpList_mstore rfl _ _ _ rfl rfl _ _ rfl 0 H _ _ rfl (.int _ _) rfl (by kernel_rfl) (of_decide_eq_true (by kernel_rfl)) (by kernel_rfl) rfl ?_) | (refine wpList_mstore rfl _ _ _ rfl rfl _ _ rfl 0 H _ _ rfl (.bool _) rfl (by kernel_rfl) (of_decide_eq_true (by kernel_rfl)) (by kernel_rfl) rfl ?_) | (refine wpList_mstore rfl _ _ _ rfl rfl _ _ rfl 0 H _ _ rfl (.pointer _) rfl (by kernel_rfl) (of_decide_eq_true (by kernel_rfl)) (by kernel_rfl) rfl ?_) | (refine wpList_mstore rfl _ _ _ rfl rfl _ _ rfl 0 H _ _ rfl (.string _) rfl (by kernel_rfl) (of_decide_eq_true (by kernel_rfl)) (by kernel_rfl) rfl ?_) | (refine wpList_mstore rfl _ _ _ rfl rfl _ _ rfl 0 H _ _ rfl (.slice _ _ _) rfl (by kernel_rfl) (of_decide_eq_true (by kernel_rfl)) (by kernel_rfl) rfl ?_)); clear H; intro w1 H; simp only [List.set_cons_zero, List.set_cons_succ] at H))
  go_ret2
  exact ⟨rfl, H.toBelow⟩
set_option maxHeartbeats 2000000 in
theorem rchr_400 (m : Mp) (ok : m.oct) (s a : Int) (w : World) (a0 : 0 ≤ a) (a1 : a < 8192) (hm : mayB m = true) (hs : chrOk s = true) (hk : m.k = 4) (hb : m.se / 128 = 0) (hq : a / 1024 = 0) : Calls Try.prog 12 #[mpV m, .int .i64 s, .int .u16 a] w fun e w' => e = .returned (.tuple #[.int .i64 (inC m s a), .int .i64 0]) ∧ Below w.heap.size w w' := by
  obtain ⟨osh, oct, ocl, oc0, oc1, opr, obk, ose, omi, or0, or1, or2, or3, or4, or5, or6, or7, olt, ocn⟩ := ok
  obtain ⟨z0, z1⟩ := chr_sizes hs
  have E : plR s (m.r0 / 2) 2048 a = inC m s a := by
    unfold inC cBanks cFour
    rw [if_neg (by omega), if_neg (by omega), if_pos hk, if_neg (by omega), hq]
    simp only [b8_at]
    have h2 := cl_two m.r0 0 hs hq
    simpa using h2
  rw [← E]
  have KM := fun wr => rmay6_ct m wr
  have KS := fun wr => rsizc_ct s wr
  rw [hm] at KM
  rw [hs] at KS
  have QM := Lib.hid KM
  have QS := Lib.hid KS
  have QP := Lib.hid (fun wr => rplace_ct s (m.r0 / 2) 2048 a wr (by omega) (by omega) (by omega) (by omega) (by omega) (by omega) (by omega) (by omega))
  have d : decide (8191 < a) = false := by simp; omega
  have x0 := or0.1
  have x1 := or0.2
  have v0 := ose.1
  have v1 := ose.2
  have db : decide (128 ≤ m.se) = false := by simp; omega
  have u1 := tdivn (x := m.r0) (y := 2) x0
  obtain ⟨t, ht⟩ : ∃ t, a = t := ⟨_, rfl⟩
  have t0 : 0 ≤ t ∧ t < 1024 := by omega
  obtain ⟨t1, t2⟩ := t0
  rw [← ht] at t1 t2
  clear ht
  have d1 : decide (a < 2048) = true := by simp; omega
  have d2 : decide (a < 4096) = true := by simp; omega
  have H := Mem.start w
  unfold mpV at *
  have e1 : (m.k == 1) = false := by rw [hk]; rfl
  have e3 : (m.k == 3) = false := by rw [hk]; rfl
  have e4 : (m.k == 4) = true := by rw [hk]; rfl
  clear E KM KS hm hs
  go_enter Try.func12, Try.ntmps12
  go_wp2_with (first
    | (go_at_call 18; (with_reducible refine (QM.out _).mono ?_); rintro e w2 ⟨rfl, hB⟩; replace H := H.next hB; clear hB)
    | (go_at_call 14; (with_reducible refine (QS.out _).mono ?_); rintro e w2 ⟨rfl, rfl⟩)
    | (go_at_call 19; (with_reducible refine (QP.out _).mono ?_); rintro e w2 ⟨rfl, hB⟩; replace H := H.next hB; clear hB)
    | go_skip | (refine wpList_mboxA rfl _ _ rfl H _ rfl ?_; clear H; intro _ w1 _ H) | (refine gate_load _ _ rfl ?_; first | (refine wpList_mloadA rfl _ _ rfl _ rfl 0 H _ rfl (by decide +kernel) (by kernel_rfl) ?_) | (refine wpList_mload1 rfl _ _ rfl _ _ rfl 0 H _ (.int _ _) rfl rfl (by decide +kernel) ?_) | (refine wpList_mload1 rfl _ _ rfl _ _ rfl 0 H _ (.bool _) rfl rfl (by decide +kernel) ?_) | (refine wpList_mload1 rfl _ _ rfl _ _ rfl 0 H _ (.pointer _) rfl rfl (by decide +kernel) ?_) | (refine wpList_mload1 rfl _ _ rfl _ _ rfl 0 H _ (.string _) rfl rfl (by decide +kernel) ?_) | (refine wpList_mload1 rfl _ _ rfl _ _ rfl 0 H _ (.slice _ _ _) rfl rfl (by decide +kernel) ?_)) | (refine gate_store _ _ _ rfl ?_; (first | (refine wpList_mstoreA rfl _ _ _ rfl rfl _ rfl 0 H _ _ rfl rfl (by kernel_rfl) (by kernel_rfl) (by kernel_rfl) ?_) | (refine wpList_mstore rfl _ _ _ rfl rfl _ _ rfl 0 H _ _ rfl (.int _ _) rfl (by kernel_rfl) (of_decide_eq_true (by kernel_rfl)) (by kernel_rfl) rfl ?_) | (refine wpList_mstore rfl _ _ _ rfl rfl _ _ rfl 0 H _ _ rfl (.bool _) rfl (by kernel_rfl) (of_decide_eq_true (by kernel_rfl)) (by kernel_rfl) rfl ?_) | (refine wpList_mstore rfl _ _ _ rfl rfl _ _ rfl 0 H _ _ rfl (.pointer _) rfl (by kernel_rfl) (of_decide_eq_true (by kernel_rfl)) (by kernel_rfl) rfl ?_) | (refine wpList_mstore rfl _ _ _ rfl rfl _ _ rfl 0 H _ _ rfl (.string _) rfl (by kernel_rfl) (of_decide_eq_true (by kernel_rfl)) (by kernel_rfl) rfl ?_) | (refine wpList_mstore rfl _ _ _ rfl rfl _ _ rfl 0 H _ _ rfl (.slice _ _ _) rfl (by kernel_rfl) (of_decide_eq_true (by kernel_rfl)) (by kernel_rfl) rfl ?_)); clear H; intro w1 H; simp only [List.set_cons_zero, List.set_cons_succ] at H))
  go_ret2
  exact ⟨rfl, H.toBelow⟩
set_option maxHeartbeats 2000000 in
theorem rchr_401 (m : Mp) (ok : m.oct) (s a : Int) (w : World) (a0 : 0 ≤ a) (a1 : a < 8192) (hm : mayB m = true) (hs : chrOk s = true) (hk : m.k = 4) (hb : m.se / 128 = 0) (hq : a / 1024 = 1) : Calls Try.prog 12 #[mpV m, .int .i64 s, .int .u16 a] w fun e w' => e = .returned (.tuple #[.int .i64 (inC m s a), .int .i64 0]) ∧ Below w.heap.size w w' := by
  obtain ⟨osh, oct, ocl, oc0, oc1, opr, obk, ose, omi, or0, or1, or2, or3, or4, or5, or6, or7, olt, ocn⟩ := ok
  obtain ⟨z0, z1⟩ := chr_sizes hs
  have E : plR s (m.r0 / 2) 2048 a = inC m s a := by
    unfold inC cBanks cFour
    rw [if_neg (by omega), if_neg (by omega), if_pos hk, if_neg (by omega), hq]
    simp only [b8_at]
    have h2 := cl_two m.r0 1 hs hq
    simpa using h2
  rw [← E]
  have KM := fun wr => rmay6_ct m wr
  have KS := fun wr => rsizc_ct s wr
  rw [hm] at KM
  rw [hs] at KS
  have QM := Lib.hid KM
  have QS := Lib.hid KS
  have QP := Lib.hid (fun wr => rplace_ct s (m.r0 / 2) 2048 a wr (by omega) (by omega) (by omega) (by omega) (by omega) (by omega) (by omega) (by omega))
  have d : decide (8191 < a) = false := by simp; omega
  have x0 := or0.1
  have x1 := or0.2
  have v0 := ose.1
  have v1 := ose.2
  have db : decide (128 ≤ m.se) = false := by simp; omega
  have u1 := tdivn (x := m.r0) (y := 2) x0
  obtain ⟨t, ht⟩ : ∃ t, a = t := ⟨_, rfl⟩
  have t0 : 1024 ≤ t ∧ t < 2048 := by omega
  obtain ⟨t1, t2⟩ := t0
  rw [← ht] at t1 t2
  clear ht
  have d1 : decide (a < 2048) = true := by simp; omega
  have d2 : decide (a < 4096) = true := by simp; omega
  have H := Mem.start w
  unfold mpV at *
  have e1 : (m.k == 1) = false := by rw [hk]; rfl
  have e3 : (m.k == 3) = false := by rw [hk]; rfl
  have e4 : (m.k == 4) = true := by rw [hk]; rfl
  clear E KM KS hm hs
  go_enter Try.func12, Try.ntmps12
  go_wp2_with (first
    | (go_at_call 18; (with_reducible refine (QM.out _).mono ?_); rintro e w2 ⟨rfl, hB⟩; replace H := H.next hB; clear hB)
    | (go_at_call 14; (with_reducible refine (QS.out _).mono ?_); rintro e w2 ⟨rfl, rfl⟩)
    | (go_at_call 19; (with_reducible refine (QP.out _).mono ?_); rintro e w2 ⟨rfl, hB⟩; replace H := H.next hB; clear hB)
    | go_skip | (refine wpList_mboxA rfl _ _ rfl H _ rfl ?_; clear H; intro _ w1 _ H) | (refine gate_load _ _ rfl ?_; first | (refine wpList_mloadA rfl _ _ rfl _ rfl 0 H _ rfl (by decide +kernel) (by kernel_rfl) ?_) | (refine wpList_mload1 rfl _ _ rfl _ _ rfl 0 H _ (.int _ _) rfl rfl (by decide +kernel) ?_) | (refine wpList_mload1 rfl _ _ rfl _ _ rfl 0 H _ (.bool _) rfl rfl (by decide +kernel) ?_) | (refine wpList_mload1 rfl _ _ rfl _ _ rfl 0 H _ (.pointer _) rfl rfl (by decide +kernel) ?_) | (refine wpList_mload1 rfl _ _ rfl _ _ rfl 0 H _ (.string _) rfl rfl (by decide +kernel) ?_) | (refine wpList_mload1 rfl _ _ rfl _ _ rfl 0 H _ (.slice _ _ _) rfl rfl (by decide +kernel) ?_)) | (refine gate_store _ _ _ rfl ?_; (first | (refine wpList_mstoreA rfl _ _ _ rfl rfl _ rfl 0 H _ _ rfl rfl (by kernel_rfl) (by kernel_rfl) (by kernel_rfl) ?_) | (refine wpList_mstore rfl _ _ _ rfl rfl _ _ rfl 0 H _ _ rfl (.int _ _) rfl (by kernel_rfl) (of_decide_eq_true (by kernel_rfl)) (by kernel_rfl) rfl ?_) | (refine wpList_mstore rfl _ _ _ rfl rfl _ _ rfl 0 H _ _ rfl (.bool _) rfl (by kernel_rfl) (of_decide_eq_true (by kernel_rfl)) (by kernel_rfl) rfl ?_) | (refine wpList_mstore rfl _ _ _ rfl rfl _ _ rfl 0 H _ _ rfl (.pointer _) rfl (by kernel_rfl) (of_decide_eq_true (by kernel_rfl)) (by kernel_rfl) rfl ?_) | (refine wpList_mstore rfl _ _ _ rfl rfl _ _ rfl 0 H _ _ rfl (.string _) rfl (by kernel_rfl) (of_decide_eq_true (by kernel_rfl)) (by kernel_rfl) rfl ?_) | (refine wpList_mstore rfl _ _ _ rfl rfl _ _ rfl 0 H _ _ rfl (.slice _ _ _) rfl (by kernel_rfl) (of_decide_eq_true (by kernel_rfl)) (by kernel_rfl) rfl ?_)); clear H; intro w1 H; simp only [List.set_cons_zero, List.set_cons_succ] at H))
  go_ret2
  exact ⟨rfl, H.toBelow⟩
set_option maxHeartbeats 2000000 in
theorem rchr_402 (m : Mp) (ok : m.oct) (s a : Int) (w : World) (a0 : 0 ≤ a) (a1 : a < 8192) (hm : mayB m = true) (hs : chrOk s = true) (hk : m.k = 4) (hb : m.se / 128 = 0) (hq : a / 1024 = 2) : Calls Try.prog 12 #[mpV m, .int .i64 s, .int .u16 a] w fun e w' => e = .returned (.tuple #[.int .i64 (inC m s a), .int .i64 0]) ∧ Below w.heap.size w w' := by
  obtain ⟨osh, oct, ocl, oc0, oc1, opr, obk, ose, omi, or0, or1, or2, or3, or4, or5, or6, or7, olt, ocn⟩ := ok
  obtain ⟨z0, z1⟩ := chr_sizes hs
  have E : plR s (m.r1 / 2) 2048 a = inC m s a := by
    unfold inC cBanks cFour
    rw [if_neg (by omega), if_neg (by omega), if_pos hk, if_neg (by omega), hq]
    simp only [b8_at]
    have h2 := cl_two m.r1 2 hs hq
    simpa using h2
  rw [← E]
  have KM := fun wr => rmay6_ct m wr
  have KS := fun wr => rsizc_ct s wr
  rw [hm] at KM
  rw [hs] at KS
  have QM := Lib.hid KM
  have QS := Lib.hid KS
  have QP := Lib.hid (fun wr => rplace_ct s (m.r1 / 2) 2048 a wr (by omega) (by omega) (by omega) (by omega) (by omega) (by omega) (by omega) (by omega))
  have d : decide (8191 < a) = false := by simp; omega
  have x0 := or1.1
  have x1 := or1.2
  have v0 := ose.1
  have v1 := ose.2
  have db : decide (128 ≤ m.se) = false := by simp; omega
  have u1 := tdivn (x := m.r1) (y := 2) x0
  obtain ⟨t, ht⟩ : ∃ t, a = t := ⟨_, rfl⟩
  have t0 : 2048 ≤ t ∧ t < 3072 := by omega
  obtain ⟨t1, t2⟩ := t0
  rw [← ht] at t1 t2
  clear ht
  have d1 : decide (a < 2048) = false := by simp; omega
  have d2 : decide (a < 4096) = true := by simp; omega
  have H := Mem.start w
  unfold mpV at *
  have e1 : (m.k == 1) = false := by rw [hk]; rfl
  have e3 : (m.k == 3) = false := by rw [hk]; rfl
  have e4 : (m.k == 4) = true := by rw [hk]; rfl
  clear E KM KS hm hs
  go_enter Try.func12, Try.ntmps12
  go_wp2_with (first
    | (go_at_call 18; (with_reducible refine (QM.out _).mono ?_); rintro e w2 ⟨rfl, hB⟩; replace H := H.next hB; clear hB)
    | (go_at_call 14; (with_reducible refine (QS.out _).mono ?_); rintro e w2 ⟨rfl, rfl⟩)
    | (go_at_call 19; (with_reducible refine (QP.out _).mono ?_); rintro e w2 ⟨rfl, hB⟩; replace H := H.next hB; clear hB)
    | go_skip | (refine wpList_mboxA rfl _ _ rfl H _ rfl ?_; clear H; intro _ w1 _ H) | (refine gate_load _ _ rfl ?_; first | (refine wpList_mloadA rfl _ _ rfl _ rfl 0 H _ rfl (by decide +kernel) (by kernel_rfl) ?_) | (refine wpList_mload1 rfl _ _ rfl _ _ rfl 0 H _ (.int _ _) rfl rfl (by decide +kernel) ?_) | (refine wpList_mload1 rfl _ _ rfl _ _ rfl 0 H _ (.bool _) rfl rfl (by decide +kernel) ?_) | (refine wpList_mload1 rfl _ _ rfl _ _ rfl 0 H _ (.pointer _) rfl rfl (by decide +kernel) ?_) | (refine wpList_mload1 rfl _ _ rfl _ _ rfl 0 H _ (.string _) rfl rfl (by decide +kernel) ?_) | (refine wpList_mload1 rfl _ _ rfl _ _ rfl 0 H _ (.slice _ _ _) rfl rfl (by decide +kernel) ?_)) | (refine gate_store _ _ _ rfl ?_; (first | (refine wpList_mstoreA rfl _ _ _ rfl rfl _ rfl 0 H _ _ rfl rfl (by kernel_rfl) (by kernel_rfl) (by kernel_rfl) ?_) | (refine wpList_mstore rfl _ _ _ rfl rfl _ _ rfl 0 H _ _ rfl (.int _ _) rfl (by kernel_rfl) (of_decide_eq_true (by kernel_rfl)) (by kernel_rfl) rfl ?_) | (refine wpList_mstore rfl _ _ _ rfl rfl _ _ rfl 0 H _ _ rfl (.bool _) rfl (by kernel_rfl) (of_decide_eq_true (by kernel_rfl)) (by kernel_rfl) rfl ?_) | (refine wpList_mstore rfl _ _ _ rfl rfl _ _ rfl 0 H _ _ rfl (.pointer _) rfl (by kernel_rfl) (of_decide_eq_true (by kernel_rfl)) (by kernel_rfl) rfl ?_) | (refine wpList_mstore rfl _ _ _ rfl rfl _ _ rfl 0 H _ _ rfl (.string _) rfl (by kernel_rfl) (of_decide_eq_true (by kernel_rfl)) (by kernel_rfl) rfl ?_) | (refine wpList_mstore rfl _ _ _ rfl rfl _ _ rfl 0 H _ _ rfl (.slice _ _ _) rfl (by kernel_rfl) (of_decide_eq_true (by kernel_rfl)) (by kernel_rfl) rfl ?_)); clear H; intro w1 H; simp only [List.set_cons_zero, List.set_cons_succ] at H))
  go_ret2
  exact ⟨rfl, H.toBelow⟩
set_option maxHeartbeats 2000000 in
theorem rchr_403 (m : Mp) (ok : m.oct) (s a : Int) (w : World) (a0 : 0 ≤ a) (a1 : a < 8192) (hm : mayB m = true) (hs : chrOk s = true) (hk : m.k = 4) (hb : m.se / 128 = 0) (hq : a / 1024 = 3) : Calls Try.prog 12 #[mpV m, .int .i64 s, .int .u16 a] w fun e w' => e = .returned (.tuple #[.int .i64 (inC m s a), .int .i64 0]) ∧ Below w.heap.size w w' := by
  obtain ⟨osh, oct, ocl, oc0, oc1, opr, obk, ose, omi, or0, or1, or2, or3, or4, or5, or6, or7, olt, ocn⟩ := ok
  obtain ⟨z0, z1⟩ := chr_sizes hs
  have E : plR s (m.r1 / 2) 2048 a = inC m s a := by
    unfold inC cBanks cFour
    rw [if_neg (by omega), if_neg (by omega), if_pos hk, if_neg (by omega), hq]
    simp only [b8_at]
    have h2 := cl_two m.r1 3 hs hq
    simpa using h2
  rw [← E]
  have KM := fun wr => rmay6_ct m wr
  have KS := fun wr => rsizc_ct s wr
  rw [hm] at KM
  rw [hs] at KS
  have QM := Lib.hid KM
  have QS := Lib.hid KS
  have QP := Lib.hid (fun wr => rplace_ct s (m.r1 / 2) 2048 a wr (by omega) (by omega) (by omega) (by omega) (by omega) (by omega) (by omega) (by omega))
  have d : decide (8191 < a) = false := by simp; omega
  have x0 := or1.1
  have x1 := or1.2
  have v0 := ose.1
  have v1 := ose.2
  have db : decide (128 ≤ m.se) = false := by simp; omega
  have u1 := tdivn (x := m.r1) (y := 2) x0
  obtain ⟨t, ht⟩ : ∃ t, a = t := ⟨_, rfl⟩
  have t0 : 3072 ≤ t ∧ t < 4096 := by omega
  obtain ⟨t1, t2⟩ := t0
  rw [← ht] at t1 t2
  clear ht
  have d1 : decide (a < 2048) = false := by simp; omega
  have d2 : decide (a < 4096) = true := by simp; omega
  have H := Mem.start w
  unfold mpV at *
  have e1 : (m.k == 1) = false := by rw [hk]; rfl
  have e3 : (m.k == 3) = false := by rw [hk]; rfl
  have e4 : (m.k == 4) = true := by rw [hk]; rfl
  clear E KM KS hm hs
  go_enter Try.func12, Try.ntmps12
  go_wp2_with (first
    | (go_at_call 18; (with_reducible refine (QM.out _).mono ?_); rintro e w2 ⟨rfl, hB⟩; replace H := H.next hB; clear hB)
    | (go_at_call 14; (with_reducible refine (QS.out _).mono ?_); rintro e w2 ⟨rfl, rfl⟩)
    | (go_at_call 19; (with_reducible refine (QP.out _).mono ?_); rintro e w2 ⟨rfl, hB⟩; replace H := H.next hB; clear hB)
    | go_skip | (refine wpList_mboxA rfl _ _ rfl H _ rfl ?_; clear H; intro _ w1 _ H) | (refine gate_load _ _ rfl ?_; first | (refine wpList_mloadA rfl _ _ rfl _ rfl 0 H _ rfl (by decide +kernel) (by kernel_rfl) ?_) | (refine wpList_mload1 rfl _ _ rfl _ _ rfl 0 H _ (.int _ _) rfl rfl (by decide +kernel) ?_) | (refine wpList_mload1 rfl _ _ rfl _ _ rfl 0 H _ (.bool _) rfl rfl (by decide +kernel) ?_) | (refine wpList_mload1 rfl _ _ rfl _ _ rfl 0 H _ (.pointer _) rfl rfl (by decide +kernel) ?_) | (refine wpList_mload1 rfl _ _ rfl _ _ rfl 0 H _ (.string _) rfl rfl (by decide +kernel) ?_) | (refine wpList_mload1 rfl _ _ rfl _ _ rfl 0 H _ (.slice _ _ _) rfl rfl (by decide +kernel) ?_)) | (refine gate_store _ _ _ rfl ?_; (first | (refine wpList_mstoreA rfl _ _ _ rfl rfl _ rfl 0 H _ _ rfl rfl (by kernel_rfl) (by kernel_rfl) (by kernel_rfl) ?_) | (refine wpList_mstore rfl _ _ _ rfl rfl _ _ rfl 0 H _ _ rfl (.int _ _) rfl (by kernel_rfl) (of_decide_eq_true (by kernel_rfl)) (by kernel_rfl) rfl ?_) | (refine wpList_mstore rfl _ _ _ rfl rfl _ _ rfl 0 H _ _ rfl (.bool _) rfl (by kernel_rfl) (of_decide_eq_true (by kernel_rfl)) (by kernel_rfl) rfl ?_) | (refine wpList_mstore rfl _ _ _ rfl rfl _ _ rfl 0 H _ _ rfl (.pointer _) rfl (by kernel_rfl) (of_decide_eq_true (by kernel_rfl)) (by kernel_rfl) rfl ?_) | (refine wpList_mstore rfl _ _ _ rfl rfl _ _ rfl 0 H _ _ rfl (.string _) rfl (by kernel_rfl) (of_decide_eq_true (by kernel_rfl)) (by kernel_rfl) rfl ?_) | (refine wpList_mstore rfl _ _ _ rfl rfl _ _ rfl 0 H _ _ rfl (.slice _ _ _) rfl (by kernel_rfl) (of_decide_eq_true (by kernel_rfl)) (by kernel_rfl) rfl ?_)); clear H; intro w1 H; simp only [List.set_cons_zero, List.set_cons_succ] at H))
  go_ret2
  exact ⟨rfl, H.toBelow⟩
set_option maxHeartbeats 2000000 in
theorem rchr_404 (m : Mp) (ok : m.oct) (s a : Int) (w : World) (a0 : 0 ≤ a) (a1 : a < 8192) (hm : mayB m = true) (hs : chrOk s = true) (hk : m.k = 4) (hb : m.se / 128 = 0) (hq : a / 1024 = 4) : Calls Try.prog 12 #[mpV m, .int .i64 s, .int .u16 a] w fun e w' => e = .returned (.tuple #[.int .i64 (inC m s a), .int .i64 0]) ∧ Below w.heap.size w w' := by
  obtain ⟨osh, oct, ocl, oc0, oc1, opr, obk, ose, omi, or0, or1, or2, or3, or4, or5, or6, or7, olt, ocn⟩ := ok
  obtain ⟨z0, z1⟩ := chr_sizes hs
  have E : plR s (m.r2) 1024 a = inC m s a := by
    unfold inC cBanks cFour
    rw [if_neg (by omega), if_neg (by omega), if_pos hk, if_neg (by omega), hq]
    simp only [b8_at]
    exact cl_one _ hs
  rw [← E]
  have KM := fun wr => rmay6_ct m wr
  have KS := fun wr => rsizc_ct s wr
  rw [hm] at KM
  rw [hs] at KS
  have QM := Lib.hid KM
  have QS := Lib.hid KS
  have QP := Lib.hid (fun wr => rplace_ct s (m.r2) 1024 a wr (by omega) (by omega) (by omega) (by omega) (by omega) (by omega) (by omega) (by omega))
  have d : decide (8191 < a) = false := by simp; omega
  have x0 := or2.1
  have x1 := or2.2
  have v0 := ose.1
  have v1 := ose.2
  have db : decide (128 ≤ m.se) = false := by simp; omega
  have u1 := tdivn (x := m.r2) (y := 2) x0
  obtain ⟨t, ht⟩ : ∃ t, a = t := ⟨_, rfl⟩
  have t0 : 4096 ≤ t ∧ t < 5120 := by omega
  obtain ⟨t1, t2⟩ := t0
  rw [← ht] at t1 t2
  clear ht
  have d1 : decide (a < 2048) = false := by simp; omega
  have d2 : decide (a < 4096) = false := by simp; omega
  have u5 := tdivn (x := a - 4096) (y := 1024) (by omega)
  rw [show (a - 4096) / 1024 = 0 by omega] at u5
  have H := Mem.start w
  unfold mpV at *
  have e1 : (m.k == 1) = false := by rw [hk]; rfl
  have e3 : (m.k == 3) = false := by rw [hk]; rfl
  have e4 : (m.k == 4) = true := by rw [hk]; rfl
  clear E KM KS hm hs
  go_enter Try.func12, Try.ntmps12
  go_wp2_with (first
    | (go_at_call 18; (with_reducible refine (QM.out _).mono ?_); rintro e w2 ⟨rfl, hB⟩; replace H := H.next hB; clear hB)
    | (go_at_call 14; (with_reducible refine (QS.out _).mono ?_); rintro e w2 ⟨rfl, rfl⟩)
    | (go_at_call 19; (with_reducible refine (QP.out _).mono ?_); rintro e w2 ⟨rfl, hB⟩; replace H := H.next hB; clear hB)
    | go_skip | (refine wpList_mboxA rfl _ _ rfl H _ rfl ?_; clear H; intro _ w1 _ H) | (refine gate_load _ _ rfl ?_; first | (refine wpList_mloadA rfl _ _ rfl _ rfl 0 H _ rfl (by decide +kernel) (by kernel_rfl) ?_) | (refine wpList_mload1 rfl _ _ rfl _ _ rfl 0 H _ (.int _ _) rfl rfl (by decide +kernel) ?_) | (refine wpList_mload1 rfl _ _ rfl _ _ rfl 0 H _ (.bool _) rfl rfl (by decide +kernel) ?_) | (refine wpList_mload1 rfl _ _ rfl _ _ rfl 0 H _ (.pointer _) rfl rfl (by decide +kernel) ?_) | (refine wpList_mload1 rfl _ _ rfl _ _ rfl 0 H _ (.string _) rfl rfl (by decide +kernel) ?_) | (refine wpList_mload1 rfl _ _ rfl _ _ rfl 0 H _ (.slice _ _ _) rfl rfl (by decide +kernel) ?_)) | (refine gate_store _ _ _ rfl ?_; (first | (refine wpList_mstoreA rfl _ _ _ rfl rfl _ rfl 0 H _ _ rfl rfl (by kernel_rfl) (by kernel_rfl) (by kernel_rfl) ?_) | (refine wpList_mstore rfl _ _ _ rfl rfl _ _ rfl 0 H _ _ rfl (.int _ _) rfl (by kernel_rfl) (of_decide_eq_true (by kernel_rfl)) (by kernel_rfl) rfl ?_) | (refine wpList_mstore rfl _ _ _ rfl rfl _ _ rfl 0 H _ _ rfl (.bool _) rfl (by kernel_rfl) (of_decide_eq_true (by kernel_rfl)) (by kernel_rfl) rfl ?_) | (refine wpList_mstore rfl _ _ _ rfl rfl _ _ rfl 0 H _ _ rfl (.pointer _) rfl (by kernel_rfl) (of_decide_eq_true (by kernel_rfl)) (by kernel_rfl) rfl ?_) | (refine wpList_mstore rfl _ _ _ rfl rfl _ _ rfl 0 H _ _ rfl (.string _) rfl (by kernel_rfl) (of_decide_eq_true (by kernel_rfl)) (by kernel_rfl) rfl ?_) | (refine wpList_mstore rfl _ _ _ rfl rfl _ _ rfl 0 H _ _ rfl (.slice _ _ _) rfl (by kernel_rfl) (of_decide_eq_true (by kernel_rfl)) (by kernel_rfl) rfl ?_)); clear H; intro w1 H; simp only [List.set_cons_zero, List.set_cons_succ] at H))
  go_ret2
  exact ⟨rfl, H.toBelow⟩
set_option maxHeartbeats 2000000 in
theorem rchr_405 (m : Mp) (ok : m.oct) (s a : Int) (w : World) (a0 : 0 ≤ a) (a1 : a < 8192) (hm : mayB m = true) (hs : chrOk s = true) (hk : m.k = 4) (hb : m.se / 128 = 0) (hq : a / 1024 = 5) : Calls Try.prog 12 #[mpV m, .int .i64 s, .int .u16 a] w fun e w' => e = .returned (.tuple #[.int .i64 (inC m s a), .int .i64 0]) ∧ Below w.heap.size w w' := by
  obtain ⟨osh, oct, ocl, oc0, oc1, opr, obk, ose, omi, or0, or1, or2, or3, or4, or5, or6, or7, olt, ocn⟩ := ok
  obtain ⟨z0, z1⟩ := chr_sizes hs
  have E : plR s (m.r3) 1024 a = inC m s a := by
    unfold inC cBanks cFour
    rw [if_neg (by omega), if_neg (by omega), if_pos hk, if_neg (by omega), hq]
    simp only [b8_at]
    exact cl_one _ hs
  rw [← E]
  have KM := fun wr => rmay6_ct m wr
  have KS := fun wr => rsizc_ct s wr
  rw [hm] at KM
  rw [hs] at KS
  have QM := Lib.hid KM
  have QS := Lib.hid KS
  have QP := Lib.hid (fun wr => rplace_ct s (m.r3) 1024 a wr (by omega) (by omega) (by omega) (by omega) (by omega) (by omega) (by omega) (by omega))
  have d : decide (8191 < a) = false := by simp; omega
  have x0 := or3.1
  have x1 := or3.2
  have v0 := ose.1
  have v1 := ose.2
  have db : decide (128 ≤ m.se) = false := by simp; omega
  have u1 := tdivn (x := m.r3) (y := 2) x0
  obtain ⟨t, ht⟩ : ∃ t, a = t := ⟨_, rfl⟩
  have t0 : 5120 ≤ t ∧ t < 6144 := by omega
  obtain ⟨t1, t2⟩ := t0
  rw [← ht] at t1 t2
  clear ht
  have d1 : decide (a < 2048) = false := by simp; omega
  have d2 : decide (a < 4096) = false := by simp; omega
  have u5 := tdivn (x := a - 4096) (y := 1024) (by omega)
  rw [show (a - 4096) / 1024 = 1 by omega] at u5
  have H := Mem.start w
  unfold mpV at *
  have e1 : (m.k == 1) = false := by rw [hk]; rfl
  have e3 : (m.k == 3) = false := by rw [hk]; rfl
  have e4 : (m.k == 4) = true := by rw [hk]; rfl
  clear E KM KS hm hs
  go_enter Try.func12, Try.ntmps12
  go_wp2_with (first
    | (go_at_call 18; (with_reducible refine (QM.out _).mono ?_); rintro e w2 ⟨rfl, hB⟩; replace H := H.next hB; clear hB)
    | (go_at_call 14; (with_reducible refine (QS.out _).mono ?_); rintro e w2 ⟨rfl, rfl⟩)
    | (go_at_call 19; (with_reducible refine (QP.out _).mono ?_); rintro e w2 ⟨rfl, hB⟩; replace H := H.next hB; clear hB)
    | go_skip | (refine wpList_mboxA rfl _ _ rfl H _ rfl ?_; clear H; intro _ w1 _ H) | (refine gate_load _ _ rfl ?_; first | (refine wpList_mloadA rfl _ _ rfl _ rfl 0 H _ rfl (by decide +kernel) (by kernel_rfl) ?_) | (refine wpList_mload1 rfl _ _ rfl _ _ rfl 0 H _ (.int _ _) rfl rfl (by decide +kernel) ?_) | (refine wpList_mload1 rfl _ _ rfl _ _ rfl 0 H _ (.bool _) rfl rfl (by decide +kernel) ?_) | (refine wpList_mload1 rfl _ _ rfl _ _ rfl 0 H _ (.pointer _) rfl rfl (by decide +kernel) ?_) | (refine wpList_mload1 rfl _ _ rfl _ _ rfl 0 H _ (.string _) rfl rfl (by decide +kernel) ?_) | (refine wpList_mload1 rfl _ _ rfl _ _ rfl 0 H _ (.slice _ _ _) rfl rfl (by decide +kernel) ?_)) | (refine gate_store _ _ _ rfl ?_; (first | (refine wpList_mstoreA rfl _ _ _ rfl rfl _ rfl 0 H _ _ rfl rfl (by kernel_rfl) (by kernel_rfl) (by kernel_rfl) ?_) | (refine wpList_mstore rfl _ _ _ rfl rfl _ _ rfl 0 H _ _ rfl (.int _ _) rfl (by kernel_rfl) (of_decide_eq_true (by kernel_rfl)) (by kernel_rfl) rfl ?_) | (refine wpList_mstore rfl _ _ _ rfl rfl _ _ rfl 0 H _ _ rfl (.bool _) rfl (by kernel_rfl) (of_decide_eq_true (by kernel_rfl)) (by kernel_rfl) rfl ?_) | (refine wpList_mstore rfl _ _ _ rfl rfl _ _ rfl 0 H _ _ rfl (.pointer _) rfl (by kernel_rfl) (of_decide_eq_true (by kernel_rfl)) (by kernel_rfl) rfl ?_) | (refine wpList_mstore rfl _ _ _ rfl rfl _ _ rfl 0 H _ _ rfl (.string _) rfl (by kernel_rfl) (of_decide_eq_true (by kernel_rfl)) (by kernel_rfl) rfl ?_) | (refine wpList_mstore rfl _ _ _ rfl rfl _ _ rfl 0 H _ _ rfl (.slice _ _ _) rfl (by kernel_rfl) (of_decide_eq_true (by kernel_rfl)) (by kernel_rfl) rfl ?_)); clear H; intro w1 H; simp only [List.set_cons_zero, List.set_cons_succ] at H))
  go_ret2
  exact ⟨rfl, H.toBelow⟩
set_option maxHeartbeats 2000000 in
theorem rchr_406 (m : Mp) (ok : m.oct) (s a : Int) (w : World) (a0 : 0 ≤ a) (a1 : a < 8192) (hm : mayB m = true) (hs : chrOk s = true) (hk : m.k = 4) (hb : m.se / 128 = 0) (hq : a / 1024 = 6) : Calls Try.prog 12 #[mpV m, .int .i64 s, .int .u16 a] w fun e w' => e = .returned (.tuple #[.int .i64 (inC m s a), .int .i64 0]) ∧ Below w.heap.size w w' := by
  obtain ⟨osh, oct, ocl, oc0, oc1, opr, obk, ose, omi, or0, or1, or2, or3, or4, or5, or6, or7, olt, ocn⟩ := ok
  obtain ⟨z0, z1⟩ := chr_sizes hs
  have E : plR s (m.r4) 1024 a = inC m s a := by
    unfold inC cBanks cFour
    rw [if_neg (by omega), if_neg (by omega), if_pos hk, if_neg (by omega), hq]
    simp only [b8_at]
    exact cl_one _ hs
  rw [← E]
  have KM := fun wr => rmay6_ct m wr
  have KS := fun wr => rsizc_ct s wr
  rw [hm] at KM
  rw [hs] at KS
  have QM := Lib.hid KM
  have QS := Lib.hid KS
  have QP := Lib.hid (fun wr => rplace_ct s (m.r4) 1024 a wr (by omega) (by omega) (by omega) (by omega) (by omega) (by omega) (by omega) (by omega))
  have d : decide (8191 < a) = false := by simp; omega
  have x0 := or4.1
  have x1 := or4.2
  have v0 := ose.1
  have v1 := ose.2
  have db : decide (128 ≤ m.se) = false := by simp; omega
  have u1 := tdivn (x := m.r4) (y := 2) x0
  obtain ⟨t, ht⟩ : ∃ t, a = t := ⟨_, rfl⟩
  have t0 : 6144 ≤ t ∧ t < 7168 := by omega
  obtain ⟨t1, t2⟩ := t0
  rw [← ht] at t1 t2
  clear ht
  have d1 : decide (a < 2048) = false := by simp; omega
  have d2 : decide (a < 4096) = false := by simp; omega
  have u5 := tdivn (x := a - 4096) (y := 1024) (by omega)
  rw [show (a - 4096) / 1024 = 2 by omega] at u5
  have H := Mem.start w
  unfold mpV at *
  have e1 : (m.k == 1) = false := by rw [hk]; rfl
  have e3 : (m.k == 3) = false := by rw [hk]; rfl
  have e4 : (m.k == 4) = true := by rw [hk]; rfl
  clear E KM KS hm hs
  go_enter Try.func12, Try.ntmps12
  go_wp2_with (first
    | (go_at_call 18; (with_reducible refine (QM.out _).mono ?_); rintro e w2 ⟨rfl, hB⟩; replace H := H.next hB; clear hB)
    | (go_at_call 14; (with_reducible refine (QS.out _).mono ?_); rintro e w2 ⟨rfl, rfl⟩)
    | (go_at_call 19; (with_reducible refine (QP.out _).mono ?_); rintro e w2 ⟨rfl, hB⟩; replace H := H.next hB; clear hB)
    | go_skip | (refine wpList_mboxA rfl _ _ rfl H _ rfl ?_; clear H; intro _ w1 _ H) | (refine gate_load _ _ rfl ?_; first | (refine wpList_mloadA rfl _ _ rfl _ rfl 0 H _ rfl (by decide +kernel) (by kernel_rfl) ?_) | (refine wpList_mload1 rfl _ _ rfl _ _ rfl 0 H _ (.int _ _) rfl rfl (by decide +kernel) ?_) | (refine wpList_mload1 rfl _ _ rfl _ _ rfl 0 H _ (.bool _) rfl rfl (by decide +kernel) ?_) | (refine wpList_mload1 rfl _ _ rfl _ _ rfl 0 H _ (.pointer _) rfl rfl (by decide +kernel) ?_) | (refine wpList_mload1 rfl _ _ rfl _ _ rfl 0 H _ (.string _) rfl rfl (by decide +kernel) ?_) | (refine wpList_mload1 rfl _ _ rfl _ _ rfl 0 H _ (.slice _ _ _) rfl rfl (by decide +kernel) ?_)) | (refine gate_store _ _ _ rfl ?_; (first | (refine wpList_mstoreA rfl _ _ _ rfl rfl _ rfl 0 H _ _ rfl rfl (by kernel_rfl) (by kernel_rfl) (by kernel_rfl) ?_) | (refine wpList_mstore rfl _ _ _ rfl rfl _ _ rfl 0 H _ _ rfl (.int _ _) rfl (by kernel_rfl) (of_decide_eq_true (by kernel_rfl)) (by kernel_rfl) rfl ?_) | (refine wpList_mstore rfl _ _ _ rfl rfl _ _ rfl 0 H _ _ rfl (.bool _) rfl (by kernel_rfl) (of_decide_eq_true (by kernel_rfl)) (by kernel_rfl) rfl ?_) | (refine wpList_mstore rfl _ _ _ rfl rfl _ _ rfl 0 H _ _ rfl (.pointer _) rfl (by kernel_rfl) (of_decide_eq_true (by kernel_rfl)) (by kernel_rfl) rfl ?_) | (refine wpList_mstore rfl _ _ _ rfl rfl _ _ rfl 0 H _ _ rfl (.string _) rfl (by kernel_rfl) (of_decide_eq_true (by kernel_rfl)) (by kernel_rfl) rfl ?_) | (refine wpList_mstore rfl _ _ _ rfl rfl _ _ rfl 0 H _ _ rfl (.slice _ _ _) rfl (by kernel_rfl) (of_decide_eq_true (by kernel_rfl)) (by kernel_rfl) rfl ?_)); clear H; intro w1 H; simp only [List.set_cons_zero, List.set_cons_succ] at H))
  go_ret2
  exact ⟨rfl, H.toBelow⟩
set_option maxHeartbeats 2000000 in
theorem rchr_407 (m : Mp) (ok : m.oct) (s a : Int) (w : World) (a0 : 0 ≤ a) (a1 : a < 8192) (hm : mayB m = true) (hs : chrOk s = true) (hk : m.k = 4) (hb : m.se / 128 = 0) (hq : a / 1024 = 7) : Calls Try.prog 12 #[mpV m, .int .i64 s, .int .u16 a] w fun e w' => e = .returned (.tuple #[.int .i64 (inC m s a), .int .i64 0]) ∧ Below w.heap.size w w' := by
  obtain ⟨osh, oct, ocl, oc0, oc1, opr, obk, ose, omi, or0, or1, or2, or3, or4, or5, or6, or7, olt, ocn⟩ := ok
  obtain ⟨z0, z1⟩ := chr_sizes hs
  have E : plR s (m.r5) 1024 a = inC m s a := by
    unfold inC cBanks cFour
    rw [if_neg (by omega), if_neg (by omega), if_pos hk, if_neg (by omega), hq]
    simp only [b8_at]
    exact cl_one _ hs
  rw [← E]
  have KM := fun wr => rmay6_ct m wr
  have KS := fun wr => rsizc_ct s wr
  rw [hm] at KM
  rw [hs] at KS
  have QM := Lib.hid KM
  have QS := Lib.hid KS
  have QP := Lib.hid (fun wr => rplace_ct s (m.r5) 1024 a wr (by omega) (by omega) (by omega) (by omega) (by omega) (by omega) (by omega) (by omega))
  have d : decide (8191 < a) = false := by simp; omega
  have x0 := or5.1
  have x1 := or5.2
  have v0 := ose.1
  have v1 := ose.2
  have db : decide (128 ≤ m.se) = false := by simp; omega
  have u1 := tdivn (x := m.r5) (y := 2) x0
  obtain ⟨t, ht⟩ : ∃ t, a = t := ⟨_, rfl⟩
  have t0 : 7168 ≤ t ∧ t < 8192 := by omega
  obtain ⟨t1, t2⟩ := t0
  rw [← ht] at t1 t2
  clear ht
  have d1 : decide (a < 2048) = false := by simp; omega
  have d2 : decide (a < 4096) = false := by simp; omega
  have u5 := tdivn (x := a - 4096) (y := 1024) (by omega)
  rw [show (a - 4096) / 1024 = 3 by omega] at u5
  have H := Mem.start w
  unfold mpV at *
  have e1 : (m.k == 1) = false := by rw [hk]; rfl
  have e3 : (m.k == 3) = false := by rw [hk]; rfl
  have e4 : (m.k == 4) = true := by rw [hk]; rfl
  clear E KM KS hm hs
  go_enter Try.func12, Try.ntmps12
  go_wp2_with (first
    | (go_at_call 18; (with_reducible refine (QM.out _).mono ?_); rintro e w2 ⟨rfl, hB⟩; replace H := H.next hB; clear hB)
    | (go_at_call 14; (with_reducible refine (QS.out _).mono ?_); rintro e w2 ⟨rfl, rfl⟩)
    | (go_at_call 19; (with_reducible refine (QP.out _).mono ?_); rintro e w2 ⟨rfl, hB⟩; replace H := H.next hB; clear hB)
    | go_skip | (refine wpList_mboxA rfl _ _ rfl H _ rfl ?_; clear H; intro _ w1 _ H) | (refine gate_load _ _ rfl ?_; first | (refine wpList_mloadA rfl _ _ rfl _ rfl 0 H _ rfl (by decide +kernel) (by kernel_rfl) ?_) | (refine wpList_mload1 rfl _ _ rfl _ _ rfl 0 H _ (.int _ _) rfl rfl (by decide +kernel) ?_) | (refine wpList_mload1 rfl _ _ rfl _ _ rfl 0 H _ (.bool _) rfl rfl (by decide +kernel) ?_) | (refine wpList_mload1 rfl _ _ rfl _ _ rfl 0 H _ (.pointer _) rfl rfl (by decide +kernel) ?_) | (refine wpList_mload1 rfl _ _ rfl _ _ rfl 0 H _ (.string _) rfl rfl (by decide +kernel) ?_) | (refine wpList_mload1 rfl _ _ rfl _ _ rfl 0 H _ (.slice _ _ _) rfl rfl (by decide +kernel) ?_)) | (refine gate_store _ _ _ rfl ?_; (first | (refine wpList_mstoreA rfl _ _ _ rfl rfl _ rfl 0 H _ _ rfl rfl (by kernel_rfl) (by kernel_rfl) (by kernel_rfl) ?_) | (refine wpList_mstore rfl _ _ _ rfl rfl _ _ rfl 0 H _ _ rfl (.int _ _) rfl (by kernel_rfl) (of_decide_eq_true (by kernel_rfl)) (by kernel_rfl) rfl ?_) | (refine wpList_mstore rfl _ _ _ rfl rfl _ _ rfl 0 H _ _ rfl (.bool _) rfl (by kernel_rfl) (of_decide_eq_true (by kernel_rfl)) (by kernel_rfl) rfl ?_) | (refine wpList_mstore rfl _ _ _ rfl rfl _ _ rfl 0 H _ _ rfl (.pointer _) rfl (by kernel_rfl) (of_decide_eq_true (by kernel_rfl)) (by kernel_rfl) rfl ?_) | (refine wpList_mstore rfl _ _ _ rfl rfl _ _ rfl 0 H _ _ rfl (.string _) rfl (by kernel_rfl) (of_decide_eq_true (by kernel_rfl)) (by kernel_rfl) rfl ?_) | (refine wpList_mstore rfl _ _ _ rfl rfl _ _ rfl 0 H _ _ rfl (.slice _ _ _) rfl (by kernel_rfl) (of_decide_eq_true (by kernel_rfl)) (by kernel_rfl) rfl ?_)); clear H; intro w1 H; simp only [List.set_cons_zero, List.set_cons_succ] at H))
  go_ret2
  exact ⟨rfl, H.toBelow⟩
set_option maxHeartbeats 2000000 in
theorem rchr_410 (m : Mp) (ok : m.oct) (s a : Int) (w : World) (a0 : 0 ≤ a) (a1 : a < 8192) (hm : mayB m = true) (hs : chrOk s = true) (hk : m.k = 4) (hb : m.se / 128 = 1) (hq : a / 1024 = 0) : Calls Try.prog 12 #[mpV m, .int .i64 s, .int .u16 a] w fun e w' => e = .returned (.tuple #[.int .i64 (inC m s a), .int .i64 0]) ∧ Below w.heap.size w w' := by
  obtain ⟨osh, oct, ocl, oc0, oc1, opr, obk, ose, omi, or0, or1, or2, or3, or4, or5, or6, or7, olt, ocn⟩ := ok
  obtain ⟨z0, z1⟩ := chr_sizes hs
  have E : plR s (m.r2) 1024 a = inC m s a := by
    unfold inC cBanks cFour
    rw [if_neg (by omega), if_neg (by omega), if_pos hk, if_pos hb, hq]
    simp only [b8_at]
    exact cl_one _ hs
  rw [← E]
  have KM := fun wr => rmay6_ct m wr
  have KS := fun wr => rsizc_ct s wr
  rw [hm] at KM
  rw [hs] at KS
  have QM := Lib.hid KM
  have QS := Lib.hid KS
  have QP := Lib.hid (fun wr => rplace_ct s (m.r2) 1024 a wr (by omega) (by omega) (by omega) (by omega) (by omega) (by omega) (by omega) (by omega))
  have d : decide (8191 < a) = false := by simp; omega
  have x0 := or2.1
  have x1 := or2.2
  have v0 := ose.1
  have v1 := ose.2
  have db : decide (128 ≤ m.se) = true := by simp; omega
  have u1 := tdivn (x := m.r2) (y := 2) x0
  have u2 := rem16 (x := a + 4096) (y := 8192) (by omega)
  obtain ⟨t, ht⟩ : ∃ t, (a + 4096) % 8192 = t := ⟨_, rfl⟩
  have t0 : 4096 ≤ t ∧ t < 5120 := by omega
  rw [ht] at u2
  clear ht
  obtain ⟨t1, t2⟩ := t0
  have d1 : decide (t < 2048) = false := by simp; omega
  have d2 : decide (t < 4096) = false := by simp; omega
  have u5 := tdivn (x := t - 4096) (y := 1024) (by omega)
  rw [show (t - 4096) / 1024 = 0 by omega] at u5
  have H := Mem.start w
  unfold mpV at *
  have e1 : (m.k == 1) = false := by rw [hk]; rfl
  have e3 : (m.k == 3) = false := by rw [hk]; rfl
  have e4 : (m.k == 4) = true := by rw [hk]; rfl
  clear E KM KS hm hs
  go_enter Try.func12, Try.ntmps12
  go_wp2_with (first
    | (go_at_call 18; (with_reducible refine (QM.out _).mono ?_); rintro e w2 ⟨rfl, hB⟩; replace H := H.next hB; clear hB)
    | (go_at_call 14; (with_reducible refine (QS.out _).mono ?_); rintro e w2 ⟨rfl, rfl⟩)
    | (go_at_call 19; (with_reducible refine (QP.out _).mono ?_); rintro e w2 ⟨rfl, hB⟩; replace H := H.next hB; clear hB)
    | go_skip | (refine wpList_mboxA rfl _ _ rfl H _ rfl ?_; clear H; intro _ w1 _ H) | (refine gate_load _ _ rfl ?_; first | (refine wpList_mloadA rfl _ _ rfl _ rfl 0 H _ rfl (by decide +kernel) (by kernel_rfl) ?_) | (refine wpList_mload1 rfl _ _ rfl _ _ rfl 0 H _ (.int _ _) rfl rfl (by decide +kernel) ?_) | (refine wpList_mload1 rfl _ _ rfl _ _ rfl 0 H _ (.bool _) rfl rfl (by decide +kernel) ?_) | (refine wpList_mload1 rfl _ _ rfl _ _ rfl 0 H _ (.pointer _) rfl rfl (by decide +kernel) ?_) | (refine wpList_mload1 rfl _ _ rfl _ _ rfl 0 H _ (.string _) rfl rfl (by decide +kernel) ?_) | (refine wpList_mload1 rfl _ _ rfl _ _ rfl 0 H _ (.slice _ _ _) rfl rfl (by decide +kernel) ?_)) | (refine gate_store _ _ _ rfl ?_; (first | (refine wpList_mstoreA rfl _ _ _ rfl rfl _ rfl 0 H _ _ rfl rfl (by kernel_rfl) (by kernel_rfl) (by kernel_rfl) ?_) | (refine wpList_mstore rfl _ _ _ rfl rfl _ _ rfl 0 H _ _ rfl (.int _ _) rfl (by kernel_rfl) (of_decide_eq_true (by kernel_rfl)) (by kernel_rfl) rfl ?_) | (refine wpList_mstore rfl _ _ _ rfl rfl _ _ rfl 0 H _ _ rfl (.bool _) rfl (by kernel_rfl) (of_decide_eq_true (by kernel_rfl)) (by kernel_rfl) rfl ?_) | (refine wpList_mstore rfl _ _ _ rfl rfl _ _ rfl 0 H _ _ rfl (.pointer _) rfl (by kernel_rfl) (of_decide_eq_true (by kernel_rfl)) (by kernel_rfl) rfl ?_) | (refine wpList_mstore rfl _ _ _ rfl rfl _ _ rfl 0 H _ _ rfl (.string _) rfl (by kernel_rfl) (of_decide_eq_true (by kernel_rfl)) (by kernel_rfl) rfl ?_) | (refine wpList_mstore rfl _ _ _ rfl rfl _ _ rfl 0 H _ _ rfl (.slice _ _ _) rfl (by kernel_rfl) (of_decide_eq_true (by kernel_rfl)) (by kernel_rfl) rfl ?_)); clear H; intro w1 H; simp only [List.set_cons_zero, List.set_cons_succ] at H))
  go_ret2
  exact ⟨rfl, H.toBelow⟩
set_option maxHeartbeats 2000000 in
theorem rchr_411 (m : Mp) (ok : m.oct) (s a : Int) (w : World) (a0 : 0 ≤ a) (a1 : a < 8192) (hm : mayB m = true) (hs : chrOk s = true) (hk : m.k = 4) (hb : m.se / 128 = 1) (hq : a / 1024 = 1) : Calls Try.prog 12 #[mpV m, .int .i64 s, .int .u16 a] w fun e w' => e = .returned (.tuple #[.int .i64 (inC m s a), .int .i64 0]) ∧ Below w.heap.size w w' := by
  obtain ⟨osh, oct, ocl, oc0, oc1, opr, obk, ose, omi, or0, or1, or2, or3, or4, or5, or6, or7, olt, ocn⟩ := ok
  obtain ⟨z0, z1⟩ := chr_sizes hs
  have E : plR s (m.r3) 1024 a = inC m s a := by
    unfold inC cBanks cFour
    rw [if_neg (by omega), if_neg (by omega), if_pos hk, if_pos hb, hq]
    simp only [b8_at]
    exact cl_one _ hs
  rw [← E]
  have KM := fun wr => rmay6_ct m wr
  have KS := fun wr => rsizc_ct s wr
  rw [hm] at KM
  rw [hs] at KS
  have QM := Lib.hid KM
  have QS := Lib.hid KS
  have QP := Lib.hid (fun wr => rplace_ct s (m.r3) 1024 a wr (by omega) (by omega) (by omega) (by omega) (by omega) (by omega) (by omega) (by omega))
  have d : decide (8191 < a) = false := by simp; omega
  have x0 := or3.1
  have x1 := or3.2
  have v0 := ose.1
  have v1 := ose.2
  have db : decide (128 ≤ m.se) = true := by simp; omega
  have u1 := tdivn (x := m.r3) (y := 2) x0
  have u2 := rem16 (x := a + 4096) (y := 8192) (by omega)
  obtain ⟨t, ht⟩ : ∃ t, (a + 4096) % 8192 = t := ⟨_, rfl⟩
  have t0 : 5120 ≤ t ∧ t < 6144 := by omega
  rw [ht] at u2
  clear ht
  obtain ⟨t1, t2⟩ := t0
  have d1 : decide (t < 2048) = false := by simp; omega
  have d2 : decide (t < 4096) = false := by simp; omega
  have u5 := tdivn (x := t - 4096) (y := 1024) (by omega)
  rw [show (t - 4096) / 1024 = 1 by omega] at u5
  have H := Mem.start w
  unfold mpV at *
  have e1 : (m.k == 1) = false := by rw [hk]; rfl
  have e3 : (m.k == 3) = false := by rw [hk]; rfl
  have e4 : (m.k == 4) = true := by rw [hk]; rfl
  clear E KM KS hm hs
  go_enter Try.func12, Try.ntmps12
  go_wp2_with (first
    | (go_at_call 18; (with_reducible refine (QM.out _).mono ?_); rintro e w2 ⟨rfl, hB⟩; replace H := H.next hB; clear hB)
    | (go_at_call 14; (with_reducible refine (QS.out _).mono ?_); rintro e w2 ⟨rfl, rfl⟩)
    | (go_at_call 19; (with_reducible refine (QP.out _).mono ?_); rintro e w2 ⟨rfl, hB⟩; replace H := H.next hB; clear hB)
    | go_skip | (refine wpList_mboxA rfl _ _ rfl H _ rfl ?_; clear H; intro _ w1 _ H) | (refine gate_load _ _ rfl ?_; first | (refine wpList_mloadA rfl _ _ rfl _ rfl 0 H _ rfl (by decide +kernel) (by kernel_rfl) ?_) | (refine wpList_mload1 rfl _ _ rfl _ _ rfl 0 H _ (.int _ _) rfl rfl (by decide +kernel) ?_) | (refine wpList_mload1 rfl _ _ rfl _ _ rfl 0 H _ (.bool _) rfl rfl (by decide +kernel) ?_) | (refine wpList_mload1 rfl _ _ rfl _ _ rfl 0 H _ (.pointer _) rfl rfl (by decide +kernel) ?_) | (refine wpList_mload1 rfl _ _ rfl _ _ rfl 0 H _ (.string _) rfl rfl (by decide +kernel) ?_) | (refine wpList_mload1 rfl _ _ rfl _ _ rfl 0 H _ (.slice _ _ _) rfl rfl (by decide +kernel) ?_)) | (refine gate_store _ _ _ rfl ?_; (first | (refine wpList_mstoreA rfl _ _ _ rfl rfl _ rfl 0 H _ _ rfl rfl (by kernel_rfl) (by kernel_rfl) (by kernel_rfl) ?_) | (refine wpList_mstore rfl _ _ _ rfl rfl _ _ rfl 0 H _ _ rfl (.int _ _) rfl (by kernel_rfl) (of_decide_eq_true (by kernel_rfl)) (by kernel_rfl) rfl ?_) | (refine wpList_mstore rfl _ _ _ rfl rfl _ _ rfl 0 H _ _ rfl (.bool _) rfl (by kernel_rfl) (of_decide_eq_true (by kernel_rfl)) (by kernel_rfl) rfl ?_) | (refine wpList_mstore rfl _ _ _ rfl rfl _ _ rfl 0 H _ _ rfl (.pointer _) rfl (by kernel_rfl) (of_decide_eq_true (by kernel_rfl)) (by kernel_rfl) rfl ?_) | (refine wpList_mstore rfl _ _ _ rfl rfl _ _ rfl 0 H _ _ rfl (.string _) rfl (by kernel_rfl) (of_decide_eq_true (by kernel_rfl)) (by kernel_rfl) rfl ?_) | (refine wpList_mstore rfl _ _ _ rfl rfl _ _ rfl 0 H _ _ rfl (.slice _ _ _) rfl (by kernel_rfl) (of_decide_eq_true (by kernel_rfl)) (by kernel_rfl) rfl ?_)); clear H; intro w1 H; simp only [List.set_cons_zero, List.set_cons_succ] at H))
  go_ret2
  exact ⟨rfl, H.toBelow⟩
set_option maxHeartbeats 2000000 in
theorem rchr_412 (m : Mp) (ok : m.oct) (s a : Int) (w : World) (a0 : 0 ≤ a) (a1 : a < 8192) (hm : mayB m = true) (hs : chrOk s = true) (hk : m.k = 4) (hb : m.se / 128 = 1) (hq : a / 1024 = 2) : Calls Try.prog 12 #[mpV m, .int .i64 s, .int .u16 a] w fun e w' => e = .returned (.tuple #[.int .i64 (inC m s a), .int .i64 0]) ∧ Below w.heap.size w w' := by
  obtain ⟨osh, oct, ocl, oc0, oc1, opr, obk, ose, omi, or0, or1, or2, or3, or4, or5, or6, or7, olt, ocn⟩ := ok
  obtain ⟨z0, z1⟩ := chr_sizes hs
  have E : plR s (m.r4) 1024 a = inC m s a := by
    unfold inC cBanks cFour
    rw [if_neg (by omega), if_neg (by omega), if_pos hk, if_pos hb, hq]
    simp only [b8_at]
    exact cl_one _ hs
  rw [← E]
  have KM := fun wr => rmay6_ct m wr
  have KS := fun wr => rsizc_ct s wr
  rw [hm] at KM
  rw [hs] at KS
  have QM := Lib.hid KM
  have QS := Lib.hid KS
  have QP := Lib.hid (fun wr => rplace_ct s (m.r4) 1024 a wr (by omega) (by omega) (by omega) (by omega) (by omega) (by omega) (by omega) (by omega))
  have d : decide (8191 < a) = false := by simp; omega
  have x0 := or4.1
  have x1 := or4.2
  have v0 := ose.1
  have v1 := ose.2
  have db : decide (128 ≤ m.se) = true := by simp; omega
  have u1 := tdivn (x := m.r4) (y := 2) x0
  have u2 := rem16 (x := a + 4096) (y := 8192) (by omega)
  obtain ⟨t, ht⟩ : ∃ t, (a + 4096) % 8192 = t := ⟨_, rfl⟩
  have t0 : 6144 ≤ t ∧ t < 7168 := by omega
  rw [ht] at u2
  clear ht
  obtain ⟨t1, t2⟩ := t0
  have d1 : decide (t < 2048) = false := by simp; omega
  have d2 : decide (t < 4096) = false := by simp; omega
  have u5 := tdivn (x := t - 4096) (y := 1024) (by omega)
  rw [show (t - 4096) / 1024 = 2 by omega] at u5
  have H := Mem.start w
  unfold mpV at *
  have e1 : (m.k == 1) = false := by rw [hk]; rfl
  have e3 : (m.k == 3) = false := by rw [hk]; rfl
  have e4 : (m.k == 4) = true := by rw [hk]; rfl
  clear E KM KS hm hs
  go_enter Try.func12, Try.ntmps12
  go_wp2_with (first
    | (go_at_call 18; (with_reducible refine (QM.out _).mono ?_); rintro e w2 ⟨rfl, hB⟩; replace H := H.next hB; clear hB)
    | (go_at_call 14; (with_reducible refine (QS.out _).mono ?_); rintro e w2 ⟨rfl, rfl⟩)
    | (go_at_call 19; (with_reducible refine (QP.out _).mono ?_); rintro e w2 ⟨rfl, hB⟩; replace H := H.next hB; clear hB)
    | go_skip | (refine wpList_mboxA rfl _ _ rfl H _ rfl ?_; clear H; intro _ w1 _ H) | (refine gate_load _ _ rfl ?_; first | (refine wpList_mloadA rfl _ _ rfl _ rfl 0 H _ rfl (by decide +kernel) (by kernel_rfl) ?_) | (refine wpList_mload1 rfl _ _ rfl _ _ rfl 0 H _ (.int _ _) rfl rfl (by decide +kernel) ?_) | (refine wpList_mload1 rfl _ _ rfl _ _ rfl 0 H _ (.bool _) rfl rfl (by decide +kernel) ?_) | (refine wpList_mload1 rfl _ _ rfl _ _ rfl 0 H _ (.pointer _) rfl rfl (by decide +kernel) ?_) | (refine wpList_mload1 rfl _ _ rfl _ _ rfl 0 H _ (.string _) rfl rfl (by decide +kernel) ?_) | (refine wpList_mload1 rfl _ _ rfl _ _ rfl 0 H _ (.slice _ _ _) rfl rfl (by decide +kernel) ?_)) | (refine gate_store _ _ _ rfl ?_; (first | (refine wpList_mstoreA rfl _ _ _ rfl rfl _ rfl 0 H _ _ rfl rfl (by kernel_rfl) (by kernel_rfl) (by kernel_rfl) ?_) | (refine wpList_mstore rfl _ _ _ rfl rfl _ _ rfl 0 H _ _ rfl (.int _ _) rfl (by kernel_rfl) (of_decide_eq_true (by kernel_rfl)) (by kernel_rfl) rfl ?_) | (refine wpList_mstore rfl _ _ _ rfl rfl _ _ rfl 0 H _ _ rfl (.bool _) rfl (by kernel_rfl) (of_decide_eq_true (by kernel_rfl)) (by kernel_rfl) rfl ?_) | (refine wpList_mstore rfl _ _ _ rfl rfl _ _ rfl 0 H _ _ rfl (.pointer _) rfl (by kernel_rfl) (of_decide_eq_true (by kernel_rfl)) (by kernel_rfl) rfl ?_) | (refine wpList_mstore rfl _ _ _ rfl rfl _ _ rfl 0 H _ _ rfl (.string _) rfl (by kernel_rfl) (of_decide_eq_true (by kernel_rfl)) (by kernel_rfl) rfl ?_) | (refine wpList_mstore rfl _ _ _ rfl rfl _ _ rfl 0 H _ _ rfl (.slice _ _ _) rfl (by kernel_rfl) (of_decide_eq_true (by kernel_rfl)) (by kernel_rfl) rfl ?_)); clear H; intro w1 H; simp only [List.set_cons_zero, List.set_cons_succ] at H))
  go_ret2
  exact ⟨rfl, H.toBelow⟩
set_option maxHeartbeats 2000000 in
theorem rchr_413 (m : Mp) (ok : m.oct) (s a : Int) (w : World) (a0 : 0 ≤ a) (a1 : a < 8192) (hm : mayB m = true) (hs : chrOk s = true) (hk : m.k = 4) (hb : m.se / 128 = 1) (hq : a / 1024 = 3) : Calls Try.prog 12 #[mpV m, .int .i64 s, .int .u16 a] w fun e w' => e = .returned (.tuple #[.int .i64 (inC m s a), .int .i64 0]) ∧ Below w.heap.size w w' := by
  obtain ⟨osh, oct, ocl, oc0, oc1, opr, obk, ose, omi, or0, or1, or2, or3, or4, or5, or6, or7, olt, ocn⟩ := ok
  obtain ⟨z0, z1⟩ := chr_sizes hs
  have E : plR s (m.r5) 1024 a = inC m s a := by
    unfold inC cBanks cFour
    rw [if_neg (by omega), if_neg (by omega), if_pos hk, if_pos hb, hq]
    simp only [b8_at]
    exact cl_one _ hs
  rw [← E]
  have KM := fun wr => rmay6_ct m wr
  have KS := fun wr => rsizc_ct s wr
  rw [hm] at KM
  rw [hs] at KS
  have QM := Lib.hid KM
  have QS := Lib.hid KS
  have QP := Lib.hid (fun wr => rplace_ct s (m.r5) 1024 a wr (by omega) (by omega) (by omega) (by omega) (by omega) (by omega) (by omega) (by omega))
  have d : decide (8191 < a) = false := by simp; omega
  have x0 := or5.1
  have x1 := or5.2
  have v0 := ose.1
  have v1 := ose.2
  have db : decide (128 ≤ m.se) = true := by simp; omega
  have u1 := tdivn (x := m.r5) (y := 2) x0
  have u2 := rem16 (x := a + 4096) (y := 8192) (by omega)
  obtain ⟨t, ht⟩ : ∃ t, (a + 4096) % 8192 = t := ⟨_, rfl⟩
  have t0 : 7168 ≤ t ∧ t < 8192 := by omega
  rw [ht] at u2
  clear ht
  obtain ⟨t1, t2⟩ := t0
  have d1 : decide (t < 2048) = false := by simp; omega
  have d2 : decide (t < 4096) = false := by simp; omega
  have u5 := tdivn (x := t - 4096) (y := 1024) (by omega)
  rw [show (t - 4096) / 1024 = 3 by omega] at u5
  have H := Mem.start w
  unfold mpV at *
  have e1 : (m.k == 1) = false := by rw [hk]; rfl
  have e3 : (m.k == 3) = false := by rw [hk]; rfl
  have e4 : (m.k == 4) = true := by rw [hk]; rfl
  clear E KM KS hm hs
  go_enter Try.func12, Try.ntmps12
  go_wp2_with (first
    | (go_at_call 18; (with_reducible refine (QM.out _).mono ?_); rintro e w2 ⟨rfl, hB⟩; replace H := H.next hB; clear hB)
    | (go_at_call 14; (with_reducible refine (QS.out _).mono ?_); rintro e w2 ⟨rfl, rfl⟩)
    | (go_at_call 19; (with_reducible refine (QP.out _).mono ?_); rintro e w2 ⟨rfl, hB⟩; replace H := H.next hB; clear hB)
    | go_skip | (refine wpList_mboxA rfl _ _ rfl H _ rfl ?_; clear H; intro _ w1 _ H) | (refine gate_load _ _ rfl ?_; first | (refine wpList_mloadA rfl _ _ rfl _ rfl 0 H _ rfl (by decide +kernel) (by kernel_rfl) ?_) | (refine wpList_mload1 rfl _ _ rfl _ _ rfl 0 H _ (.int _ _) rfl rfl (by decide +kernel) ?_) | (refine wpList_mload1 rfl _ _ rfl _ _ rfl 0 H _ (.bool _) rfl rfl (by decide +kernel) ?_) | (refine wpList_mload1 rfl _ _ rfl _ _ rfl 0 H _ (.pointer _) rfl rfl (by decide +kernel) ?_) | (refine wpList_mload1 rfl _ _ rfl _ _ rfl 0 H _ (.string _) rfl rfl (by decide +kernel) ?_) | (refine wpList_mload1 rfl _ _ rfl _ _ rfl 0 H _ (.slice _ _ _) rfl rfl (by decide +kernel) ?_)) | (refine gate_store _ _ _ rfl ?_; (first | (refine wpList_mstoreA rfl _ _ _ rfl rfl _ rfl 0 H _ _ rfl rfl (by kernel_rfl) (by kernel_rfl) (by kernel_rfl) ?_) | (refine wpList_mstore rfl _ _ _ rfl rfl _ _ rfl 0 H _ _ rfl (.int _ _) rfl (by kernel_rfl) (of_decide_eq_true (by kernel_rfl)) (by kernel_rfl) rfl ?_) | (refine wpList_mstore rfl _ _ _ rfl rfl _ _ rfl 0 H _ _ rfl (.bool _) rfl (by kernel_rfl) (of_decide_eq_true (by kernel_rfl)) (by kernel_rfl) rfl ?_) | (refine wpList_mstore rfl _ _ _ rfl rfl _ _ rfl 0 H _ _ rfl (.pointer _) rfl (by kernel_rfl) (of_decide_eq_true (by kernel_rfl)) (by kernel_rfl) rfl ?_) | (refine wpList_mstore rfl _ _ _ rfl rfl _ _ rfl 0 H _ _ rfl (.string _) rfl (by kernel_rfl) (of_decide_eq_true (by kernel_rfl)) (by kernel_rfl) rfl ?_) | (refine wpList_mstore rfl _ _ _ rfl rfl _ _ rfl 0 H _ _ rfl (.slice _ _ _) rfl (by kernel_rfl) (of_decide_eq_true (by kernel_rfl)) (by kernel_rfl) rfl ?_)); clear H; intro w1 H; simp only [List.set_cons_zero, List.set_cons_succ] at H))
  go_ret2
  exact ⟨rfl, H.toBelow⟩
set_option maxHeartbeats 2000000 in
theorem rchr_414 (m : Mp) (ok : m.oct) (s a : Int) (w : World) (a0 : 0 ≤ a) (a1 : a < 8192) (hm : mayB m = true) (hs : chrOk s = true) (hk : m.k = 4) (hb : m.se / 128 = 1) (hq : a / 1024 = 4) : Calls Try.prog 12 #[mpV m, .int .i64 s, .int .u16 a] w fun e w' => e = .returned (.tuple #[.int .i64 (inC m s a), .int .i64 0]) ∧ Below w.heap.size w w' := by
  obtain ⟨osh, oct, ocl, oc0, oc1, opr, obk, ose, omi, or0, or1, or2, or3, or4, or5, or6, or7, olt, ocn⟩ := ok
  obtain ⟨z0, z1⟩ := chr_sizes hs
  have E : plR s (m.r0 / 2) 2048 a = inC m s a := by
    unfold inC cBanks cFour
    rw [if_neg (by omega), if_neg (by omega), if_pos hk, if_pos hb, hq]
    simp only [b8_at]
    have h2 := cl_two m.r0 4 hs hq
    simpa using h2
  rw [← E]
  have KM := fun wr => rmay6_ct m wr
  have KS := fun wr => rsizc_ct s wr
  rw [hm] at KM
  rw [hs] at KS
  have QM := Lib.hid KM
  have QS := Lib.hid KS
  have QP := Lib.hid (fun wr => rplace_ct s (m.r0 / 2) 2048 a wr (by omega) (by omega) (by omega) (by omega) (by omega) (by omega) (by omega) (by omega))
  have d : decide (8191 < a) = false := by simp; omega
  have x0 := or0.1
  have x1 := or0.2
  have v0 := ose.1
  have v1 := ose.2
  have db : decide (128 ≤ m.se) = true := by simp; omega
  have u1 := tdivn (x := m.r0) (y := 2) x0
  have u2 := rem16 (x := a + 4096) (y := 8192) (by omega)
  obtain ⟨t, ht⟩ : ∃ t, (a + 4096) % 8192 = t := ⟨_, rfl⟩
  have t0 : 0 ≤ t ∧ t < 1024 := by omega
  rw [ht] at u2
  clear ht
  obtain ⟨t1, t2⟩ := t0
  have d1 : decide (t < 2048) = true := by simp; omega
  have d2 : decide (t < 4096) = true := by simp; omega
  have H := Mem.start w
  unfold mpV at *
  have e1 : (m.k == 1) = false := by rw [hk]; rfl
  have e3 : (m.k == 3) = false := by rw [hk]; rfl
  have e4 : (m.k == 4) = true := by rw [hk]; rfl
  clear E KM KS hm hs
  go_enter Try.func12, Try.ntmps12
  go_wp2_with (first
    | (go_at_call 18; (with_reducible refine (QM.out _).mono ?_); rintro e w2 ⟨rfl, hB⟩; replace H := H.next hB; clear hB)
    | (go_at_call 14; (with_reducible refine (QS.out _).mono ?_); rintro e w2 ⟨rfl, rfl⟩)
    | (go_at_call 19; (with_reducible refine (QP.out _).mono ?_); rintro e w2 ⟨rfl, hB⟩; replace H := H.next hB; clear hB)
    | go_skip | (refine wpList_mboxA rfl _ _ rfl H _ rfl ?_; clear H; intro _ w1 _ H) | (refine gate_load _ _ rfl ?_; first | (refine wpList_mloadA rfl _ _ rfl _ rfl 0 H _ rfl (by decide +kernel) (by kernel_rfl) ?_) | (refine wpList_mload1 rfl _ _ rfl _ _ rfl 0 H _ (.int _ _) rfl rfl (by decide +kernel) ?_) | (refine wpList_mload1 rfl _ _ rfl _ _ rfl 0 H _ (.bool _) rfl rfl (by decide +kernel) ?_) | (refine wpList_mload1 rfl _ _ rfl _ _ rfl 0 H _ (.pointer _) rfl rfl (by decide +kernel) ?_) | (refine wpList_mload1 rfl _ _ rfl _ _ rfl 0 H _ (.string _) rfl rfl (by decide +kernel) ?_) | (refine wpList_mload1 rfl _ _ rfl _ _ rfl 0 H _ (.slice _ _ _) rfl rfl (by decide +kernel) ?_)) | (refine gate_store _ _ _ rfl ?_; (first | (refine wpList_mstoreA rfl _ _ _ rfl rfl _ rfl 0 H _ _ rfl rfl (by kernel_rfl) (by kernel_rfl) (by kernel_rfl) ?_) | (refine wpList_mstore rfl _ _ _ rfl rfl _ _ rfl 0 H _ _ rfl (.int _ _) rfl (by kernel_rfl) (of_decide_eq_true (by kernel_rfl)) (by kernel_rfl) rfl ?_) | (refine wpList_mstore rfl _ _ _ rfl rfl _ _ rfl 0 H _ _ rfl (.bool _) rfl (by kernel_rfl) (of_decide_eq_true (by kernel_rfl)) (by kernel_rfl) rfl ?_) | (refine wpList_mstore rfl _ _ _ rfl rfl _ _ rfl 0 H _ _ rfl (.pointer _) rfl (by kernel_rfl) (of_decide_eq_true (by kernel_rfl)) (by kernel_rfl) rfl ?_) | (refine wpList_mstore rfl _ _ _ rfl rfl _ _ rfl 0 H _ _ rfl (.string _) rfl (by kernel_rfl) (of_decide_eq_true (by kernel_rfl)) (by kernel_rfl) rfl ?_) | (refine wpList_mstore rfl _ _ _ rfl rfl _ _ rfl 0 H _ _ rfl (.slice _ _ _) rfl (by kernel_rfl) (of_decide_eq_true (by kernel_rfl)) (by kernel_rfl) rfl ?_)); clear H; intro w1 H; simp only [List.set_cons_zero, List.set_cons_succ] at H))
  go_ret2
  exact ⟨rfl, H.toBelow⟩
set_option maxHeartbeats 2000000 in
theorem rchr_415 (m : Mp) (ok : m.oct) (s a : Int) (w : World) (a0 : 0 ≤ a) (a1 : a < 8192) (hm : mayB m = true) (hs : chrOk s = true) (hk : m.k = 4) (hb : m.se / 128 = 1) (hq : a / 1024 = 5) : Calls Try.prog 12 #[mpV m, .int .i64 s, .int .u16 a] w fun e w' => e = .returned (.tuple #[.int .i64 (inC m s a), .int .i64 0]) ∧ Below w.heap.size w w' := by
  obtain ⟨osh, oct, ocl, oc0, oc1, opr, obk, ose, omi, or0, or1, or2, or3, or4, or5, or6, or7, olt, ocn⟩ := ok
  obtain ⟨z0, z1⟩ := chr_sizes hs
  have E : plR s (m.r0 / 2) 2048 a = inC m s a := by
    unfold inC cBanks cFour
    rw [if_neg (by omega), if_neg (by omega), if_pos hk, if_pos hb, hq]
    simp only [b8_at]
    have h2 := cl_two m.r0 5 hs hq
    simpa using h2
  rw [← E]
  have KM := fun wr => rmay6_ct m wr
  have KS := fun wr => rsizc_ct s wr
  rw [hm] at KM
  rw [hs] at KS
  have QM := Lib.hid KM
  have QS := Lib.hid KS
  have QP := Lib.hid (fun wr => rplace_ct s (m.r0 / 2) 2048 a wr (by omega) (by omega) (by omega) (by omega) (by omega) (by omega) (by omega) (by omega))
  have d : decide (8191 < a) = false := by simp; omega
  have x0 := or0.1
  have x1 := or0.2
  have v0 := ose.1
  have v1 := ose.2
  have db : decide (128 ≤ m.se) = true := by simp; omega
  have u1 := tdivn (x := m.r0) (y := 2) x0
  have u2 := rem16 (x := a + 4096) (y := 8192) (by omega)
  obtain ⟨t, ht⟩ : ∃ t, (a + 4096) % 8192 = t := ⟨_, rfl⟩
  have t0 : 1024 ≤ t ∧ t < 2048 := by omega
  rw [ht] at u2
  clear ht
  obtain ⟨t1, t2⟩ := t0
  have d1 : decide (t < 2048) = true := by simp; omega
  have d2 : decide (t < 4096) = true := by simp; omega
  have H := Mem.start w
  unfold mpV at *
  have e1 : (m.k == 1) = false := by rw [hk]; rfl
  have e3 : (m.k == 3) = false := by rw [hk]; rfl
  have e4 : (m.k == 4) = true := by rw [hk]; rfl
  clear E KM KS hm hs
  go_enter Try.func12, Try.ntmps12
  go_wp2_with (first
    | (go_at_call 18; (with_reducible refine (QM.out _).mono ?_); rintro e w2 ⟨rfl, hB⟩; replace H := H.next hB; clear hB)
    | (go_at_call 14; (with_reducible refine (QS.out _).mono ?_); rintro e w2 ⟨rfl, rfl⟩)
    | (go_at_call 19; (with_reducible refine (QP.out _).mono ?_); rintro e w2 ⟨rfl, hB⟩; replace H := H.next hB; clear hB)
    | go_skip | (refine wpList_mboxA rfl _ _ rfl H _ rfl ?_; clear H; intro _ w1 _ H) | (refine gate_load _ _ rfl ?_; first | (refine wpList_mloadA rfl _ _ rfl _ rfl 0 H _ rfl (by decide +kernel) (by kernel_rfl) ?_) | (refine wpList_mload1 rfl _ _ rfl _ _ rfl 0 H _ (.int _ _) rfl rfl (by decide +kernel) ?_) | (refine wpList_mload1 rfl _ _ rfl _ _ rfl 0 H _ (.bool _) rfl rfl (by decide +kernel) ?_) | (refine wpList_mload1 rfl _ _ rfl _ _ rfl 0 H _ (.pointer _) rfl rfl (by decide +kernel) ?_) | (refine wpList_mload1 rfl _ _ rfl _ _ rfl 0 H _ (.string _) rfl rfl (by decide +kernel) ?_) | (refine wpList_mload1 rfl _ _ rfl _ _ rfl 0 H _ (.slice _ _ _) rfl rfl (by decide +kernel) ?_)) | (refine gate_store _ _ _ rfl ?_; (first | (refine wpList_mstoreA rfl _ _ _ rfl rfl _ rfl 0 H _ _ rfl rfl (by kernel_rfl) (by kernel_rfl) (by kernel_rfl) ?_) | (refine wpList_mstore rfl _ _ _ rfl rfl _ _ rfl 0 H _ _ rfl (.int _ _) rfl (by kernel_rfl) (of_decide_eq_true (by kernel_rfl)) (by kernel_rfl) rfl ?_) | (refine wpList_mstore rfl _ _ _ rfl rfl _ _ rfl 0 H _ _ rfl (.bool _) rfl (by kernel_rfl) (of_decide_eq_true (by kernel_rfl)) (by kernel_rfl) rfl ?_) | (refine wpList_mstore rfl _ _ _ rfl rfl _ _ rfl 0 H _ _ rfl (.pointer _) rfl (by kernel_rfl) (of_decide_eq_true (by kernel_rfl)) (by kernel_rfl) rfl ?_) | (refine wpList_mstore rfl _ _ _ rfl rfl _ _ rfl 0 H _ _ rfl (.string _) rfl (by kernel_rfl) (of_decide_eq_true (by kernel_rfl)) (by kernel_rfl) rfl ?_) | (refine wpList_mstore rfl _ _ _ rfl rfl _ _ rfl 0 H _ _ rfl (.slice _ _ _) rfl (by kernel_rfl) (of_decide_eq_true (by kernel_rfl)) (by kernel_rfl) rfl ?_)); clear H; intro w1 H; simp only [List.set_cons_zero, List.set_cons_succ] at H))
  go_ret2
  exact ⟨rfl, H.toBelow⟩
set_option maxHeartbeats 2000000 in
theorem rchr_416 (m : Mp) (ok : m.oct) (s a : Int) (w : World) (a0 : 0 ≤ a) (a1 : a < 8192) (hm : mayB m = true) (hs : chrOk s = true) (hk : m.k = 4) (hb : m.se / 128 = 1) (hq : a / 1024 = 6) : Calls Try.prog 12 #[mpV m, .int .i64 s, .int .u16 a] w fun e w' => e = .returned (.tuple #[.int .i64 (inC m s a), .int .i64 0]) ∧ Below w.heap.size w w' := by
  obtain ⟨osh, oct, ocl, oc0, oc1, opr, obk, ose, omi, or0, or1, or2, or3, or4, or5, or6, or7, olt, ocn⟩ := ok
  obtain ⟨z0, z1⟩ := chr_sizes hs
  have E : plR s (m.r1 / 2) 2048 a = inC m s a := by
    unfold inC cBanks cFour
    rw [if_neg (by omega), if_neg (by omega), if_pos hk, if_pos hb, hq]
    simp only [b8_at]
    have h2 := cl_two m.r1 6 hs hq
    simpa using h2
  rw [← E]
  have KM := fun wr => rmay6_ct m wr
  have KS := fun wr => rsizc_ct s wr
  rw [hm] at KM
  rw [hs] at KS
  have QM := Lib.hid KM
  have QS := Lib.hid KS
  have QP := Lib.hid (fun wr => rplace_ct s (m.r1 / 2) 2048 a wr (by omega) (by omega) (by omega) (by omega) (by omega) (by omega) (by omega) (by omega))
  have d : decide (8191 < a) = false := by simp; omega
  have x0 := or1.1
  have x1 := or1.2
  have v0 := ose.1
  have v1 := ose.2
  have db : decide (128 ≤ m.se) = true := by simp; omega
  have u1 := tdivn (x := m.r1) (y := 2) x0
  have u2 := rem16 (x := a + 4096) (y := 8192) (by omega)
  obtain ⟨t, ht⟩ : ∃ t, (a + 4096) % 8192 = t := ⟨_, rfl⟩
  have t0 : 2048 ≤ t ∧ t < 3072 := by omega
  rw [ht] at u2
  clear ht
  obtain ⟨t1, t2⟩ := t0
  have d1 : decide (t < 2048) = false := by simp; omega
  have d2 : decide (t < 4096) = true := by simp; omega
  have H := Mem.start w
  unfold mpV at *
  have e1 : (m.k == 1) = false := by rw [hk]; rfl
  have e3 : (m.k == 3) = false := by rw [hk]; rfl
  have e4 : (m.k == 4) = true := by rw [hk]; rfl
  clear E KM KS hm hs
  go_enter Try.func12, Try.ntmps12
  go_wp2_with (first
    | (go_at_call 18; (with_reducible refine (QM.out _).mono ?_); rintro e w2 ⟨rfl, hB⟩; replace H := H.next hB; clear hB)
    | (go_at_call 14; (with_reducible refine (QS.out _).mono ?_); rintro e w2 ⟨rfl, rfl⟩)
    | (go_at_call 19; (with_reducible refine (QP.out _).mono ?_); rintro e w2 ⟨rfl, hB⟩; replace H := H.next hB; clear hB)
    | go_skip | (refine wpList_mboxA rfl _ _ rfl H _ rfl ?_; clear H; intro _ w1 _ H) | (refine gate_load _ _ rfl ?_; first | (refine wpList_mloadA rfl _ _ rfl _ rfl 0 H _ rfl (by decide +kernel) (by kernel_rfl) ?_) | (refine wpList_mload1 rfl _ _ rfl _ _ rfl 0 H _ (.int _ _) rfl rfl (by decide +kernel) ?_) | (refine wpList_mload1 rfl _ _ rfl _ _ rfl 0 H _ (.bool _) rfl rfl (by decide +kernel) ?_) | (refine wpList_mload1 rfl _ _ rfl _ _ rfl 0 H _ (.pointer _) rfl rfl (by decide +kernel) ?_) | (refine wpList_mload1 rfl _ _ rfl _ _ rfl 0 H _ (.string _) rfl rfl (by decide +kernel) ?_) | (refine wpList_mload1 rfl _ _ rfl _ _ rfl 0 H _ (.slice _ _ _) rfl rfl (by decide +kernel) ?_)) | (refine gate_store _ _ _ rfl ?_; (first | (refine wpList_mstoreA rfl _ _ _ rfl rfl _ rfl 0 H _ _ rfl rfl (by kernel_rfl) (by kernel_rfl) (by kernel_rfl) ?_) | (refine wpList_mstore rfl _ _ _ rfl rfl _ _ rfl 0 H _ _ rfl (.int _ _) rfl (by kernel_rfl) (of_decide_eq_true (by kernel_rfl)) (by kernel_rfl) rfl ?_) | (refine wpList_mstore rfl _ _ _ rfl rfl _ _ rfl 0 H _ _ rfl (.bool _) rfl (by kernel_rfl) (of_decide_eq_true (by kernel_rfl)) (by kernel_rfl) rfl ?_) | (refine wpList_mstore rfl _ _ _ rfl rfl _ _ rfl 0 H _ _ rfl (.pointer _) rfl (by kernel_rfl) (of_decide_eq_true (by kernel_rfl)) (by kernel_rfl) rfl ?_) | (refine wpList_mstore rfl _ _ _ rfl rfl _ _ rfl 0 H _ _ rfl (.string _) rfl (by kernel_rfl) (of_decide_eq_true (by kernel_rfl)) (by kernel_rfl) rfl ?_) | (refine wpList_mstore rfl _ _ _ rfl rfl _ _ rfl 0 H _ _ rfl (.slice _ _ _) rfl (by kernel_rfl) (of_decide_eq_true (by kernel_rfl)) (by kernel_rfl) rfl ?_)); clear H; intro w1 H; simp only [List.set_cons_zero, List.set_cons_succ] at H))
  go_ret2
  exact ⟨rfl, H.toBelow⟩
set_option maxHeartbeats 2000000 in
theorem rchr_417 (m : Mp) (ok : m.oct) (s a : Int) (w : World) (a0 : 0 ≤ a) (a1 : a < 8192) (hm : mayB m = true) (hs : chrOk s = true) (hk : m.k = 4) (hb : m.se / 128 = 1) (hq : a / 1024 = 7) : Calls Try.prog 12 #[mpV m, .int .i64 s, .int .u16 a] w fun e w' => e = .returned (.tuple #[.int .i64 (inC m s a), .int .i64 0]) ∧ Below w.heap.size w w' := by
  obtain ⟨osh, oct, ocl, oc0, oc1, opr, obk, ose, omi, or0, or1, or2, or3, or4, or5, or6, or7, olt, ocn⟩ := ok
  obtain ⟨z0, z1⟩ := chr_sizes hs
  have E : plR s (m.r1 / 2) 2048 a = inC m s a := by
    unfold inC cBanks cFour
    rw [if_neg (by omega), if_neg (by omega), if_pos hk, if_pos hb, hq]
    simp only [b8_at]
    have h2 := cl_two m.r1 7 hs hq
    simpa using h2
  rw [← E]
  have KM := fun wr => rmay6_ct m wr
  have KS := fun wr => rsizc_ct s wr
  rw [hm] at KM
  rw [hs] at KS
  have QM := Lib.hid KM
  have QS := Lib.hid KS
  have QP := Lib.hid (fun wr => rplace_ct s (m.r1 / 2) 2048 a wr (by omega) (by omega) (by omega) (by omega) (by omega) (by omega) (by omega) (by omega))
  have d : decide (8191 < a) = false := by simp; omega
  have x0 := or1.1
  have x1 := or1.2
  have v0 := ose.1
  have v1 := ose.2
  have db : decide (128 ≤ m.se) = true := by simp; omega
  have u1 := tdivn (x := m.r1) (y := 2) x0
  have u2 := rem16 (x := a + 4096) (y := 8192) (by omega)
  obtain ⟨t, ht⟩ : ∃ t, (a + 4096) % 8192 = t := ⟨_, rfl⟩
  have t0 : 3072 ≤ t ∧ t < 4096 := by omega
  rw [ht] at u2
  clear ht
  obtain ⟨t1, t2⟩ := t0
  have d1 : decide (t < 2048) = false := by simp; omega
  have d2 : decide (t < 4096) = true := by simp; omega
  have H := Mem.start w
  unfold mpV at *
  have e1 : (m.k == 1) = false := by rw [hk]; rfl
  have e3 : (m.k == 3) = false := by rw [hk]; rfl
  have e4 : (m.k == 4) = true := by rw [hk]; rfl
  clear E KM KS hm hs
  go_enter Try.func12, Try.ntmps12
  go_wp2_with (first
    | (go_at_call 18; (with_reducible refine (QM.out _).mono ?_); rintro e w2 ⟨rfl, hB⟩; replace H := H.next hB; clear hB)
    | (go_at_call 14; (with_reducible refine (QS.out _).mono ?_); rintro e w2 ⟨rfl, rfl⟩)
    | (go_at_call 19; (with_reducible refine (QP.out _).mono ?_); rintro e w2 ⟨rfl, hB⟩; replace H := H.next hB; clear hB)
    | go_skip | (refine wpList_mboxA rfl _ _ rfl H _ rfl ?_; clear H; intro _ w1 _ H) | (refine gate_load _ _ rfl ?_; first | (refine wpList_mloadA rfl _ _ rfl _ rfl 0 H _ rfl (by decide +kernel) (by kernel_rfl) ?_) | (refine wpList_mload1 rfl _ _ rfl _ _ rfl 0 H _ (.int _ _) rfl rfl (by decide +kernel) ?_) | (refine wpList_mload1 rfl _ _ rfl _ _ rfl 0 H _ (.bool _) rfl rfl (by decide +kernel) ?_) | (refine wpList_mload1 rfl _ _ rfl _ _ rfl 0 H _ (.pointer _) rfl rfl (by decide +kernel) ?_) | (refine wpList_mload1 rfl _ _ rfl _ _ rfl 0 H _ (.string _) rfl rfl (by decide +kernel) ?_) | (refine wpList_mload1 rfl _ _ rfl _ _ rfl 0 H _ (.slice _ _ _) rfl rfl (by decide +kernel) ?_)) | (refine gate_store _ _ _ rfl ?_; (first | (refine wpList_mstoreA rfl _ _ _ rfl rfl _ rfl 0 H _ _ rfl rfl (by kernel_rfl) (by kernel_rfl) (by kernel_rfl) ?_) | (refine wpList_mstore rfl _ _ _ rfl rfl _ _ rfl 0 H _ _ rfl (.int _ _) rfl (by kernel_rfl) (of_decide_eq_true (by kernel_rfl)) (by kernel_rfl) rfl ?_) | (refine wpList_mstore rfl _ _ _ rfl rfl _ _ rfl 0 H _ _ rfl (.bool _) rfl (by kernel_rfl) (of_decide_eq_true (by kernel_rfl)) (by kernel_rfl) rfl ?_) | (refine wpList_mstore rfl _ _ _ rfl rfl _ _ rfl 0 H _ _ rfl (.pointer _) rfl (by kernel_rfl) (of_decide_eq_true (by kernel_rfl)) (by kernel_rfl) rfl ?_) | (refine wpList_mstore rfl _ _ _ rfl rfl _ _ rfl 0 H _ _ rfl (.string _) rfl (by kernel_rfl) (of_decide_eq_true (by kernel_rfl)) (by kernel_rfl) rfl ?_) | (refine wpList_mstore rfl _ _ _ rfl rfl _ _ rfl 0 H _ _ rfl (.slice _ _ _) rfl (by kernel_rfl) (of_decide_eq_true (by kernel_rfl)) (by kernel_rfl) rfl ?_)); clear H; intro w1 H; simp only [List.set_cons_zero, List.set_cons_succ] at H))
  go_ret2
  exact ⟨rfl, H.toBelow⟩
set_option maxHeartbeats 2000000 in
theorem rchr_0 (m : Mp) (ok : m.oct) (s a : Int) (w : World) (a0 : 0 ≤ a) (a1 : a < 8192) (hm : mayB m = true) (hs : chrOk s = true) (hk : ¬ m.k = 1 ∧ ¬ m.k = 3 ∧ ¬ m.k = 4) : Calls Try.prog 12 #[mpV m, .int .i64 s, .int .u16 a] w fun e w' => e = .returned (.tuple #[.int .i64 (inC m s a), .int .i64 0]) ∧ Below w.heap.size w w' := by
  obtain ⟨osh, oct, ocl, oc0, oc1, opr, obk, ose, omi, or0, or1, or2, or3, or4, or5, or6, or7, olt, ocn⟩ := ok
  obtain ⟨z0, z1⟩ := chr_sizes hs
  have E : a % s = inC m s a := by
    unfold inC cBanks
    rw [if_neg (by omega), if_neg (by omega), if_neg (by omega)]
    exact cl_none hs a0 a1
  rw [← E]
  have tq := rem16 (x := a) (y := s) a0
  have zs : (s == 0) = false := by simp; omega
  have zn : s ≠ 0 := by omega
  have KM := fun wr => rmay6_ct m wr
  have KS := fun wr => rsizc_ct s wr
  rw [hm] at KM
  rw [hs] at KS
  have QM := Lib.hid KM
  have QS := Lib.hid KS
  have d : decide (8191 < a) = false := by simp; omega
  have H := Mem.start w
  unfold mpV at *
  have e1 : (m.k == 1) = false := by simp; omega
  have e3 : (m.k == 3) = false := by simp; omega
  have e4 : (m.k == 4) = false := by simp; omega
  clear E KM KS hm hs
  go_enter Try.func12, Try.ntmps12
  go_wp2_with (first
    | (go_at_call 18; (with_reducible refine (QM.out _).mono ?_); rintro e w2 ⟨rfl, hB⟩; replace H := H.next hB; clear hB)
    | (go_at_call 14; (with_reducible refine (QS.out _).mono ?_); rintro e w2 ⟨rfl, rfl⟩)
    | go_skip | (refine wpList_mboxA rfl _ _ rfl H _ rfl ?_; clear H; intro _ w1 _ H) | (refine gate_load _ _ rfl ?_; first | (refine wpList_mloadA rfl _ _ rfl _ rfl 0 H _ rfl (by decide +kernel) (by kernel_rfl) ?_) | (refine wpList_mload1 rfl _ _ rfl _ _ rfl 0 H _ (.int _ _) rfl rfl (by decide +kernel) ?_) | (refine wpList_mload1 rfl _ _ rfl _ _ rfl 0 H _ (.bool _) rfl rfl (by decide +kernel) ?_) | (refine wpList_mload1 rfl _ _ rfl _ _ rfl 0 H _ (.pointer _) rfl rfl (by decide +kernel) ?_) | (refine wpList_mload1 rfl _ _ rfl _ _ rfl 0 H _ (.string _) rfl rfl (by decide +kernel) ?_) | (refine wpList_mload1 rfl _ _ rfl _ _ rfl 0 H _ (.slice _ _ _) rfl rfl (by decide +kernel) ?_)) | (refine gate_store _ _ _ rfl ?_; (first | (refine wpList_mstoreA rfl _ _ _ rfl rfl _ rfl 0 H _ _ rfl rfl (by kernel_rfl) (by kernel_rfl) (by kernel_rfl) ?_) | (refine wpList_mstore rfl _ _ _ rfl rfl _ _ rfl 0 H _ _ rfl (.int _ _) rfl (by kernel_rfl) (of_decide_eq_true (by kernel_rfl)) (by kernel_rfl) rfl ?_) | (refine wpList_mstore rfl _ _ _ rfl rfl _ _ rfl 0 H _ _ rfl (.bool _) rfl (by kernel_rfl) (of_decide_eq_true (by kernel_rfl)) (by kernel_rfl) rfl ?_) | (refine wpList_mstore rfl _ _ _ rfl rfl _ _ rfl 0 H _ _ rfl (.pointer _) rfl (by kernel_rfl) (of_decide_eq_true (by kernel_rfl)) (by kernel_rfl) rfl ?_) | (refine wpList_mstore rfl _ _ _ rfl rfl _ _ rfl 0 H _ _ rfl (.string _) rfl (by kernel_rfl) (of_decide_eq_true (by kernel_rfl)) (by kernel_rfl) rfl ?_) | (refine wpList_mstore rfl _ _ _ rfl rfl _ _ rfl 0 H _ _ rfl (.slice _ _ _) rfl (by kernel_rfl) (of_decide_eq_true (by kernel_rfl)) (by kernel_rfl) rfl ?_)); clear H; intro w1 H; simp only [List.set_cons_zero, List.set_cons_succ] at H))
  go_ret2
  exact ⟨rfl, H.toBelow⟩
theorem rchr_ct (m : Mp) (ok : m.oct) (s a : Int) (w : World) (a0 : 0 ≤ a) (a1 : a < 65536) : Calls Try.prog 12 #[mpV m, .int .i64 s, .int .u16 a] w fun e w' => e = .returned (.tuple #[.int .i64 (chrV m s a), .int .i64 (errN (okC m s a))]) ∧ Below w.heap.size w w' := by
  unfold chrV
  cases h : okC m s a
  · exact rchr_no m s a w a0 a1 h
  · have h' := h
    unfold okC at h'
    simp only [Bool.and_eq_true, decide_eq_true_eq] at h'
    obtain ⟨⟨hm, hs⟩, ha⟩ := h'
    show Calls _ _ _ _ fun e w' => e = .returned (.tuple #[.int .i64 (inC m s a), .int .i64 0]) ∧ _
    have oc := ok
    obtain ⟨osh, oct, ocl, oc0, oc1, opr, obk, ose, omi, or0, or1, or2, or3, or4, or5, or6, or7, olt, ocn⟩ := oc
    by_cases k1 : m.k = 1
    · have hc : m.cl / 16 % 2 = 0 ∨ m.cl / 16 % 2 = 1 := by omega
      rcases hc with hc | hc
      · exact rchr_10 m ok s a w a0 ha hm hs k1 hc
      · rcases Int.lt_or_le a 4096 with hq | hq
        · exact rchr_11l m ok s a w a0 ha hm hs k1 hc hq
        · exact rchr_11h m ok s a w a0 ha hm hs k1 hc hq
    by_cases k3 : m.k = 3
    · exact rchr_3 m ok s a w a0 ha hm hs k3
    by_cases k4 : m.k = 4
    · have hb : m.se / 128 = 0 ∨ m.se / 128 = 1 := by omega
      have hq : a / 1024 = 0 ∨ a / 1024 = 1 ∨ a / 1024 = 2 ∨ a / 1024 = 3 ∨ a / 1024 = 4 ∨ a / 1024 = 5 ∨ a / 1024 = 6 ∨ a / 1024 = 7 := by omega
      rcases hb with hb | hb <;> rcases hq with hq | hq | hq | hq | hq | hq | hq | hq
      · exact rchr_400 m ok s a w a0 ha hm hs k4 hb hq
      · exact rchr_401 m ok s a w a0 ha hm hs k4 hb hq
      · exact rchr_402 m ok s a w a0 ha hm hs k4 hb hq
      · exact rchr_403 m ok s a w a0 ha hm hs k4 hb hq
      · exact rchr_404 m ok s a w a0 ha hm hs k4 hb hq
      · exact rchr_405 m ok s a w a0 ha hm hs k4 hb hq
      · exact rchr_406 m ok s a w a0 ha hm hs k4 hb hq
      · exact rchr_407 m ok s a w a0 ha hm hs k4 hb hq
      · exact rchr_410 m ok s a w a0 ha hm hs k4 hb hq
      · exact rchr_411 m ok s a w a0 ha hm hs k4 hb hq
      · exact rchr_412 m ok s a w a0 ha hm hs k4 hb hq
      · exact rchr_413 m ok s a w a0 ha hm hs k4 hb hq
      · exact rchr_414 m ok s a w a0 ha hm hs k4 hb hq
      · exact rchr_415 m ok s a w a0 ha hm hs k4 hb hq
      · exact rchr_416 m ok s a w a0 ha hm hs k4 hb hq
      · exact rchr_417 m ok s a w a0 ha hm hs k4 hb hq
    · exact rchr_0 m ok s a w a0 ha hm hs ⟨k1, k3, k4⟩
end Go.Proofs.Ytodmhmkbiafahaa
