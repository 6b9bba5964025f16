/-
  Package mapper's Write of kinds 1 and 4, and New. Over this seat's translation; octets are from 0 to 255, addresses from 0 to 65535.
-/
import Derived.Test.YtoeggmbcngccpaaMbi
namespace Go.Proofs.Ytoeggmbcngccpaa
open Go.RowKit
set_option linter.unusedSimpArgs false
set_option linter.unusedVariables false

/-- What is known of a mapper's octets. -/
structure MpOk (m : Mp) : Prop where
  sh : 0 ≤ m.sh ∧ m.sh < 256
  ct : 0 ≤ m.ct ∧ m.ct < 256
  cl : 0 ≤ m.cl ∧ m.cl < 256
  se : 0 ≤ m.se ∧ m.se < 256
  lt : 0 ≤ m.lt ∧ m.lt < 256
  cn : 0 ≤ m.cn ∧ m.cn < 256
theorem mayB_bits {m : Mp} (h : mayB m = true) : m.sh < 32 ∧ m.ct < 5 ∧ m.cl < 32 := by
  unfold mayB at h
  simp only [Bool.and_eq_true, decide_eq_true_eq] at h
  exact ⟨h.1.1.1.1.1.1.1.2, h.1.1.1.1.1.1.2, h.1.1.1.1.1.2⟩
def Write4P (w : World) (m : Mp) (r v : Int) (e : Ending) (w' : World) : Prop := ∃ cs, e = .returned (.tuple #[.agg cs, .int .i64 0]) ∧ Mpish cs ∧ (r ≠ 1 → cs = mpC (fourM m r v)) ∧ Below w.heap.size w w'
set_option maxHeartbeats 2000000 in
theorem mwrite_4 (m : Mp) (a v u : Int) (w : World) (hm : mayB m = true) (ha : 32768 ≤ a) (a1 : a < 65536) (hk : m.k = 4) (s0 : 0 ≤ m.se ∧ m.se < 256) : Calls Try.prog 8 #[mpV m, .int .u16 a, .int .u8 v, .int .i64 u] w (Write4P w m (2 * (a / 8192 % 4) + a % 2) v) := by
  have HC := Lib.hid (fun wr => mcheck_yes m hm wr)
  have HZ := Lib.hid alloc_map
  have HW := Lib.hid (fun wr R T h => mfour_ct m a v wr R T h (by omega) a1 s0.1 s0.2)
  have e1 : (m.k == 1) = false := by rw [hk]; rfl
  have e2 : (m.k == 2) = false := by rw [hk]; rfl
  have e3 : (m.k == 3) = false := by rw [hk]; rfl
  have e4 : (m.k == 4) = true := by rw [hk]; rfl
  have e7 : (m.k == 7) = false := by rw [hk]; rfl
  have ha' : decide (a < 32768) = false := by simpa using ha
  clear hm hk ha s0 a1
  generalize 2 * (a / 8192 % 4) + a % 2 = r at HW ⊢
  have H := Mem.start w
  unfold mpV
  go_enter Try.func8, Try.ntmps8
  go_wp2_with (first
    | go_skip | (refine wpList_mboxA rfl _ _ rfl H _ rfl ?_; clear H; intro _ w1 _ H) | (refine gate_load _ _ rfl ?_; first | (refine wpList_mloadA rfl _ _ rfl _ rfl 0 H _ rfl (by decide +kernel) (by kernel_rfl) ?_) | (refine wpList_mloadA rfl _ _ rfl _ rfl 1 H _ rfl (by decide +kernel) (by kernel_rfl) ?_) | (refine wpList_mload1 rfl _ _ rfl _ _ rfl 0 H _ (.int _ _) rfl rfl (by decide +kernel) ?_) | (refine wpList_mload1 rfl _ _ rfl _ _ rfl 1 H _ (.int _ _) rfl rfl (by decide +kernel) ?_) | (refine wpList_mload1 rfl _ _ rfl _ _ rfl 0 H _ (.bool _) rfl rfl (by decide +kernel) ?_) | (refine wpList_mload1 rfl _ _ rfl _ _ rfl 1 H _ (.bool _) rfl rfl (by decide +kernel) ?_) | (refine wpList_mload1 rfl _ _ rfl _ _ rfl 0 H _ (.pointer _) rfl rfl (by decide +kernel) ?_) | (refine wpList_mload1 rfl _ _ rfl _ _ rfl 1 H _ (.pointer _) rfl rfl (by decide +kernel) ?_) | (refine wpList_mload1 rfl _ _ rfl _ _ rfl 0 H _ (.string _) rfl rfl (by decide +kernel) ?_) | (refine wpList_mload1 rfl _ _ rfl _ _ rfl 1 H _ (.string _) rfl rfl (by decide +kernel) ?_) | (refine wpList_mload1 rfl _ _ rfl _ _ rfl 0 H _ (.slice _ _ _) rfl rfl (by decide +kernel) ?_) | (refine wpList_mload1 rfl _ _ rfl _ _ rfl 1 H _ (.slice _ _ _) rfl rfl (by decide +kernel) ?_)) | (refine gate_store _ _ _ rfl ?_; (first | (refine wpList_mstoreA rfl _ _ _ rfl rfl _ rfl 0 H _ _ rfl rfl (by kernel_rfl) (by kernel_rfl) (by kernel_rfl) ?_) | (refine wpList_mstoreA rfl _ _ _ rfl rfl _ rfl 1 H _ _ rfl rfl (by kernel_rfl) (by kernel_rfl) (by kernel_rfl) ?_) | (refine wpList_mstore rfl _ _ _ rfl rfl _ _ rfl 0 H _ _ rfl (.int _ _) rfl (by kernel_rfl) (of_decide_eq_true (by kernel_rfl)) (by kernel_rfl) rfl ?_) | (refine wpList_mstore rfl _ _ _ rfl rfl _ _ rfl 1 H _ _ rfl (.int _ _) rfl (by kernel_rfl) (of_decide_eq_true (by kernel_rfl)) (by kernel_rfl) rfl ?_) | (refine wpList_mstore rfl _ _ _ rfl rfl _ _ rfl 0 H _ _ rfl (.bool _) rfl (by kernel_rfl) (of_decide_eq_true (by kernel_rfl)) (by kernel_rfl) rfl ?_) | (refine wpList_mstore rfl _ _ _ rfl rfl _ _ rfl 1 H _ _ rfl (.bool _) rfl (by kernel_rfl) (of_decide_eq_true (by kernel_rfl)) (by kernel_rfl) rfl ?_) | (refine wpList_mstore rfl _ _ _ rfl rfl _ _ rfl 0 H _ _ rfl (.pointer _) rfl (by kernel_rfl) (of_decide_eq_true (by kernel_rfl)) (by kernel_rfl) rfl ?_) | (refine wpList_mstore rfl _ _ _ rfl rfl _ _ rfl 1 H _ _ rfl (.pointer _) rfl (by kernel_rfl) (of_decide_eq_true (by kernel_rfl)) (by kernel_rfl) rfl ?_) | (refine wpList_mstore rfl _ _ _ rfl rfl _ _ rfl 0 H _ _ rfl (.string _) rfl (by kernel_rfl) (of_decide_eq_true (by kernel_rfl)) (by kernel_rfl) rfl ?_) | (refine wpList_mstore rfl _ _ _ rfl rfl _ _ rfl 1 H _ _ rfl (.string _) rfl (by kernel_rfl) (of_decide_eq_true (by kernel_rfl)) (by kernel_rfl) rfl ?_) | (refine wpList_mstore rfl _ _ _ rfl rfl _ _ rfl 0 H _ _ rfl (.slice _ _ _) rfl (by kernel_rfl) (of_decide_eq_true (by kernel_rfl)) (by kernel_rfl) rfl ?_) | (refine wpList_mstore rfl _ _ _ rfl rfl _ _ rfl 1 H _ _ rfl (.slice _ _ _) rfl (by kernel_rfl) (of_decide_eq_true (by kernel_rfl)) (by kernel_rfl) rfl ?_)); clear H; intro w1 H; simp only [List.set_cons_zero, List.set_cons_succ, mp_set10] at H)
    | (refine wpList_mnew rfl _ rfl H _ HZ.out ?_; clear H; intro _ w1 _ H)
    | (go_at_call 6; refine (HC.out _).mono ?_; rintro e w2 ⟨rfl, hB⟩; replace H := H.next hB; clear hB)
    | fail)
  obtain ⟨T, hg⟩ := H.get (i := 1) rfl
  refine (HW.out _ _ T hg).mono ?_
  rintro e w3 ⟨rfl, cs, hM, hI, hE⟩
  replace H := H.call (i := 1) rfl hM
  simp only [List.set_cons_zero, List.set_cons_succ] at H
  have HI := Lib.hid hI
  have HE := Lib.hid hE
  clear hM hg hE hI
  go_wp2_with (first
    | (refine wpList_mloadA rfl _ _ rfl _ rfl 1 H _ rfl (by decide +kernel) (by rw [HI.out.1]; kernel_rfl) ?_)
    | (refine wpList_mstoreA rfl _ _ _ rfl rfl _ rfl 0 H _ _ rfl rfl (by rw [HI.out.1]; kernel_rfl) (by rw [HI.out.1]; rfl) HI.out.2 ?_; clear H; intro w1 H; simp only [List.set_cons_zero] at H)
    | fail)
  exact ret_mem2 rfl _ rfl 0 H _ rfl (by kernel_rfl) (by rw [HI.out.1]; kernel_rfl) rfl _ rfl ⟨cs, rfl, HI.out, HE.out, H.toBelow⟩
set_option maxHeartbeats 2000000 in
theorem mwrite_1 (m : Mp) (a v u : Int) (w : World) (hm : mayB m = true) (ok : MpOk m) (ha : 32768 ≤ a) (a1 : a < 65536) (v0 : 0 ≤ v) (v1 : v < 256) (hk : m.k = 1) (hne : (u == wrap64 (m.la + 1)) = false) : Calls Try.prog 8 #[mpV m, .int .u16 a, .int .u8 v, .int .i64 u] w fun e w' => e = .returned (.tuple #[mpV (bitM m (a / 8192 % 4) v u), .int .i64 0]) ∧ Below w.heap.size w w' := by
  have HC := Lib.hid (fun wr => mcheck_yes m hm wr)
  have HZ := Lib.hid alloc_map
  obtain ⟨b1, b2, b3⟩ := mayB_bits hm
  have HW := Lib.hid (fun wr R T h => mbit_ct m a v u wr R T h (by omega) a1 v0 v1 ok.sh.1 b1 ok.ct.1 b2 ok.cl.1 ok.cl.2 hne)
  have e1 : (m.k == 1) = true := by rw [hk]; rfl
  have e2 : (m.k == 2) = false := by rw [hk]; rfl
  have e3 : (m.k == 3) = false := by rw [hk]; rfl
  have e4 : (m.k == 4) = false := by rw [hk]; rfl
  have e7 : (m.k == 7) = false := by rw [hk]; rfl
  have ha' : decide (a < 32768) = false := by simpa using ha
  clear hm hk ha a1 b1 b2 b3 ok hne
  have H := Mem.start w
  unfold mpV
  go_enter Try.func8, Try.ntmps8
  go_wp2_with (first
    | go_skip | (refine wpList_mboxA rfl _ _ rfl H _ rfl ?_; clear H; intro _ w1 _ H) | (refine gate_load _ _ rfl ?_; first | (refine wpList_mloadA rfl _ _ rfl _ rfl 0 H _ rfl (by decide +kernel) (by kernel_rfl) ?_) | (refine wpList_mloadA rfl _ _ rfl _ rfl 1 H _ rfl (by decide +kernel) (by kernel_rfl) ?_) | (refine wpList_mload1 rfl _ _ rfl _ _ rfl 0 H _ (.int _ _) rfl rfl (by decide +kernel) ?_) | (refine wpList_mload1 rfl _ _ rfl _ _ rfl 1 H _ (.int _ _) rfl rfl (by decide +kernel) ?_) | (refine wpList_mload1 rfl _ _ rfl _ _ rfl 0 H _ (.bool _) rfl rfl (by decide +kernel) ?_) | (refine wpList_mload1 rfl _ _ rfl _ _ rfl 1 H _ (.bool _) rfl rfl (by decide +kernel) ?_) | (refine wpList_mload1 rfl _ _ rfl _ _ rfl 0 H _ (.pointer _) rfl rfl (by decide +kernel) ?_) | (refine wpList_mload1 rfl _ _ rfl _ _ rfl 1 H _ (.pointer _) rfl rfl (by decide +kernel) ?_) | (refine wpList_mload1 rfl _ _ rfl _ _ rfl 0 H _ (.string _) rfl rfl (by decide +kernel) ?_) | (refine wpList_mload1 rfl _ _ rfl _ _ rfl 1 H _ (.string _) rfl rfl (by decide +kernel) ?_) | (refine wpList_mload1 rfl _ _ rfl _ _ rfl 0 H _ (.slice _ _ _) rfl rfl (by decide +kernel) ?_) | (refine wpList_mload1 rfl _ _ rfl _ _ rfl 1 H _ (.slice _ _ _) rfl rfl (by decide +kernel) ?_)) | (refine gate_store _ _ _ rfl ?_; (first | (refine wpList_mstoreA rfl _ _ _ rfl rfl _ rfl 0 H _ _ rfl rfl (by kernel_rfl) (by kernel_rfl) (by kernel_rfl) ?_) | (refine wpList_mstoreA rfl _ _ _ rfl rfl _ rfl 1 H _ _ rfl rfl (by kernel_rfl) (by kernel_rfl) (by kernel_rfl) ?_) | (refine wpList_mstore rfl _ _ _ rfl rfl _ _ rfl 0 H _ _ rfl (.int _ _) rfl (by kernel_rfl) (of_decide_eq_true (by kernel_rfl)) (by kernel_rfl) rfl ?_) | (refine wpList_mstore rfl _ _ _ rfl rfl _ _ rfl 1 H _ _ rfl (.int _ _) rfl (by kernel_rfl) (of_decide_eq_true (by kernel_rfl)) (by kernel_rfl) rfl ?_) | (refine wpList_mstore rfl _ _ _ rfl rfl _ _ rfl 0 H _ _ rfl (.bool _) rfl (by kernel_rfl) (of_decide_eq_true (by kernel_rfl)) (by kernel_rfl) rfl ?_) | (refine wpList_mstore rfl _ _ _ rfl rfl _ _ rfl 1 H _ _ rfl (.bool _) rfl (by kernel_rfl) (of_decide_eq_true (by kernel_rfl)) (by kernel_rfl) rfl ?_) | (refine wpList_mstore rfl _ _ _ rfl rfl _ _ rfl 0 H _ _ rfl (.pointer _) rfl (by kernel_rfl) (of_decide_eq_true (by kernel_rfl)) (by kernel_rfl) rfl ?_) | (refine wpList_mstore rfl _ _ _ rfl rfl _ _ rfl 1 H _ _ rfl (.pointer _) rfl (by kernel_rfl) (of_decide_eq_true (by kernel_rfl)) (by kernel_rfl) rfl ?_) | (refine wpList_mstore rfl _ _ _ rfl rfl _ _ rfl 0 H _ _ rfl (.string _) rfl (by kernel_rfl) (of_decide_eq_true (by kernel_rfl)) (by kernel_rfl) rfl ?_) | (refine wpList_mstore rfl _ _ _ rfl rfl _ _ rfl 1 H _ _ rfl (.string _) rfl (by kernel_rfl) (of_decide_eq_true (by kernel_rfl)) (by kernel_rfl) rfl ?_) | (refine wpList_mstore rfl _ _ _ rfl rfl _ _ rfl 0 H _ _ rfl (.slice _ _ _) rfl (by kernel_rfl) (of_decide_eq_true (by kernel_rfl)) (by kernel_rfl) rfl ?_) | (refine wpList_mstore rfl _ _ _ rfl rfl _ _ rfl 1 H _ _ rfl (.slice _ _ _) rfl (by kernel_rfl) (of_decide_eq_true (by kernel_rfl)) (by kernel_rfl) rfl ?_)); clear H; intro w1 H; simp only [List.set_cons_zero, List.set_cons_succ, mp_set10] at H)
    | (refine wpList_mnew rfl _ rfl H _ HZ.out ?_; clear H; intro _ w1 _ H)
    | (go_at_call 6; refine (HC.out _).mono ?_; rintro e w2 ⟨rfl, hB⟩; replace H := H.next hB; clear hB)
    | (go_at_call 13; obtain ⟨T, hg⟩ := H.get (i := 1) rfl; refine (HW.out _ _ T hg).mono ?_; rintro e w3 ⟨rfl, hM⟩; replace H := H.call (i := 1) rfl hM; clear hM hg; simp only [List.set_cons_zero, List.set_cons_succ] at H))
  exact ret_mem2 rfl _ rfl 0 H _ rfl (by kernel_rfl) (by kernel_rfl) rfl _ rfl ⟨rfl, H.toBelow⟩
set_option maxHeartbeats 2000000 in
theorem mwrite_1b (m : Mp) (a v u : Int) (w : World) (hm : mayB m = true) (ha : 32768 ≤ a) (hk : m.k = 1) (he : (u == wrap64 (m.la + 1)) = true) : Calls Try.prog 8 #[mpV m, .int .u16 a, .int .u8 v, .int .i64 u] w fun e w' => e = .returned (.tuple #[mpV { m with la := u }, .int .i64 0]) ∧ Below w.heap.size w w' := by
  have HC := Lib.hid (fun wr => mcheck_yes m hm wr)
  have HZ := Lib.hid alloc_map
  have HW := Lib.hid (fun wr R T h => mbit_behind m a v u wr R T h he)
  have e1 : (m.k == 1) = true := by rw [hk]; rfl
  have e2 : (m.k == 2) = false := by rw [hk]; rfl
  have e3 : (m.k == 3) = false := by rw [hk]; rfl
  have e4 : (m.k == 4) = false := by rw [hk]; rfl
  have e7 : (m.k == 7) = false := by rw [hk]; rfl
  have ha' : decide (a < 32768) = false := by simpa using ha
  clear hm hk ha he
  have H := Mem.start w
  unfold mpV
  go_enter Try.func8, Try.ntmps8
  go_wp2_with (first
    | go_skip | (refine wpList_mboxA rfl _ _ rfl H _ rfl ?_; clear H; intro _ w1 _ H) | (refine gate_load _ _ rfl ?_; first | (refine wpList_mloadA rfl _ _ rfl _ rfl 0 H _ rfl (by decide +kernel) (by kernel_rfl) ?_) | (refine wpList_mloadA rfl _ _ rfl _ rfl 1 H _ rfl (by decide +kernel) (by kernel_rfl) ?_) | (refine wpList_mload1 rfl _ _ rfl _ _ rfl 0 H _ (.int _ _) rfl rfl (by decide +kernel) ?_) | (refine wpList_mload1 rfl _ _ rfl _ _ rfl 1 H _ (.int _ _) rfl rfl (by decide +kernel) ?_) | (refine wpList_mload1 rfl _ _ rfl _ _ rfl 0 H _ (.bool _) rfl rfl (by decide +kernel) ?_) | (refine wpList_mload1 rfl _ _ rfl _ _ rfl 1 H _ (.bool _) rfl rfl (by decide +kernel) ?_) | (refine wpList_mload1 rfl _ _ rfl _ _ rfl 0 H _ (.pointer _) rfl rfl (by decide +kernel) ?_) | (refine wpList_mload1 rfl _ _ rfl _ _ rfl 1 H _ (.pointer _) rfl rfl (by decide +kernel) ?_) | (refine wpList_mload1 rfl _ _ rfl _ _ rfl 0 H _ (.string _) rfl rfl (by decide +kernel) ?_) | (refine wpList_mload1 rfl _ _ rfl _ _ rfl 1 H _ (.string _) rfl rfl (by decide +kernel) ?_) | (refine wpList_mload1 rfl _ _ rfl _ _ rfl 0 H _ (.slice _ _ _) rfl rfl (by decide +kernel) ?_) | (refine wpList_mload1 rfl _ _ rfl _ _ rfl 1 H _ (.slice _ _ _) rfl rfl (by decide +kernel) ?_)) | (refine gate_store _ _ _ rfl ?_; (first | (refine wpList_mstoreA rfl _ _ _ rfl rfl _ rfl 0 H _ _ rfl rfl (by kernel_rfl) (by kernel_rfl) (by kernel_rfl) ?_) | (refine wpList_mstoreA rfl _ _ _ rfl rfl _ rfl 1 H _ _ rfl rfl (by kernel_rfl) (by kernel_rfl) (by kernel_rfl) ?_) | (refine wpList_mstore rfl _ _ _ rfl rfl _ _ rfl 0 H _ _ rfl (.int _ _) rfl (by kernel_rfl) (of_decide_eq_true (by kernel_rfl)) (by kernel_rfl) rfl ?_) | (refine wpList_mstore rfl _ _ _ rfl rfl _ _ rfl 1 H _ _ rfl (.int _ _) rfl (by kernel_rfl) (of_decide_eq_true (by kernel_rfl)) (by kernel_rfl) rfl ?_) | (refine wpList_mstore rfl _ _ _ rfl rfl _ _ rfl 0 H _ _ rfl (.bool _) rfl (by kernel_rfl) (of_decide_eq_true (by kernel_rfl)) (by kernel_rfl) rfl ?_) | (refine wpList_mstore rfl _ _ _ rfl rfl _ _ rfl 1 H _ _ rfl (.bool _) rfl (by kernel_rfl) (of_decide_eq_true (by kernel_rfl)) (by kernel_rfl) rfl ?_) | (refine wpList_mstore rfl _ _ _ rfl rfl _ _ rfl 0 H _ _ rfl (.pointer _) rfl (by kernel_rfl) (of_decide_eq_true (by kernel_rfl)) (by kernel_rfl) rfl ?_) | (refine wpList_mstore rfl _ _ _ rfl rfl _ _ rfl 1 H _ _ rfl (.pointer _) rfl (by kernel_rfl) (of_decide_eq_true (by kernel_rfl)) (by kernel_rfl) rfl ?_) | (refine wpList_mstore rfl _ _ _ rfl rfl _ _ rfl 0 H _ _ rfl (.string _) rfl (by kernel_rfl) (of_decide_eq_true (by kernel_rfl)) (by kernel_rfl) rfl ?_) | (refine wpList_mstore rfl _ _ _ rfl rfl _ _ rfl 1 H _ _ rfl (.string _) rfl (by kernel_rfl) (of_decide_eq_true (by kernel_rfl)) (by kernel_rfl) rfl ?_) | (refine wpList_mstore rfl _ _ _ rfl rfl _ _ rfl 0 H _ _ rfl (.slice _ _ _) rfl (by kernel_rfl) (of_decide_eq_true (by kernel_rfl)) (by kernel_rfl) rfl ?_) | (refine wpList_mstore rfl _ _ _ rfl rfl _ _ rfl 1 H _ _ rfl (.slice _ _ _) rfl (by kernel_rfl) (of_decide_eq_true (by kernel_rfl)) (by kernel_rfl) rfl ?_)); clear H; intro w1 H; simp only [List.set_cons_zero, List.set_cons_succ, mp_set10] at H)
    | (refine wpList_mnew rfl _ rfl H _ HZ.out ?_; clear H; intro _ w1 _ H)
    | (go_at_call 6; refine (HC.out _).mono ?_; rintro e w2 ⟨rfl, hB⟩; replace H := H.next hB; clear hB)
    | (go_at_call 13; obtain ⟨T, hg⟩ := H.get (i := 1) rfl; refine (HW.out _ _ T hg).mono ?_; rintro e w3 ⟨rfl, hM⟩; replace H := H.call (i := 1) rfl hM; clear hM hg; simp only [List.set_cons_zero, List.set_cons_succ] at H))
  exact ret_mem2 rfl _ rfl 0 H _ rfl (by kernel_rfl) (by kernel_rfl) rfl _ rfl ⟨rfl, H.toBelow⟩
end Go.Proofs.Ytoeggmbcngccpaa
