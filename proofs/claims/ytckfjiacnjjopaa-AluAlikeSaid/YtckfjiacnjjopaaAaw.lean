/-
  Layer 8's awake: the chapter's examples; what is asked, part by part. Over this seat's translation; bytes are from 0 to 255. (Written by gen_alu.py.)
-/
import Derived.Test.YtckfjiacnjjopaaAcq
import Derived.Test.YtckfjiacnjjopaaOpa
namespace Go.Proofs.Ytckfjiacnjjopaa
open Go.RowKit
set_option linter.unusedSimpArgs false
set_option linter.unusedVariables false
set_option maxRecDepth 20000

theorem ak_f (q : Ak) : ∀ j v, (#[.int .u8 q.p, .int .u8 q.s] : Array Value)[j]? = some v → (akC q)[0 + j]? = some v := fun j v hj => by
  match j, hj with
  | 0, hj | 1, hj => exact hj
  | j + 2, hj => simp at hj
theorem ak_a (q : Ak) : ∀ j v, (#[.int .u8 q.a, .bool q.x] : Array Value)[j]? = some v → (akC q)[2 + j]? = some v := fun j v hj => by
  match j, hj with
  | 0, hj | 1, hj => exact hj
  | j + 2, hj => simp at hj
theorem ak_m (q : Ak) : ∀ j v, (#[.int .u8 q.m, .bool q.y] : Array Value)[j]? = some v → (akC q)[4 + j]? = some v := fun j v hj => by
  match j, hj with
  | 0, hj | 1, hj => exact hj
  | j + 2, hj => simp at hj
set_option maxHeartbeats 2000000 in
theorem aawake_ct (w : World) : Calls Try.prog 21 #[] w fun e w' => e = .returned (.bool true) ∧ Below w.heap.size w w' := by
  have K1 := fun wr => aadc_ct 0 0 127 false 1 false wr (by decide) (by decide) (by decide) (by decide) (by decide) (by decide) (by decide) (by decide)
  have K2 := fun wr => acmp_ct 0 0 5 false 6 false wr (by decide) (by decide) (by decide) (by decide) (by decide) (by decide) (by decide) (by decide)
  have K3 := fun wr => apush_ct 0 0 true wr (by decide) (by decide) (by decide) (by decide)
  rw [show adcV 127 1 (cI 0) = 128 by decide, show adcP 0 127 1 (cI 0) = 192 by decide, show (false || (false || hasV 0 1)) = false by decide, show adcS 0 false = 0 by decide] at K1
  rw [show lessP 0 5 6 = 128 by decide, show lessS 0 (false || false) = 0 by decide] at K2
  rw [show pushV 0 true = 48 by decide, show hasV 0 207 = false by decide] at K3
  have Q1 := Lib.hid K1
  have Q2 := Lib.hid K2
  have Q3 := Lib.hid K3
  clear K1 K2 K3
  have HZF := Lib.hid alloc_fl
  have HZB := Lib.hid alloc_by
  have H := Mem.start w
  go_enter Try.func21, Try.ntmps21
  go_wp2_with (first
    | (go_at_call 22; (with_reducible refine (Q1.out _).mono ?_); rintro e w2 ⟨rfl, hB⟩; replace H := H.next hB; clear hB)
    | (go_at_call 28; (with_reducible refine (Q2.out _).mono ?_); rintro e w2 ⟨rfl, hB⟩; replace H := H.next hB; clear hB)
    | (go_at_call 17; (with_reducible refine (Q3.out _).mono ?_); rintro e w2 ⟨rfl, hB⟩; replace H := H.next hB; clear hB)
    | go_skip | (refine wpList_mboxA rfl _ _ rfl H _ rfl ?_; clear H; intro _ w1 _ H) | (refine gate_load _ _ rfl ?_; first | (refine wpList_mloadA rfl _ _ rfl _ rfl 0 H _ rfl (by decide +kernel) (by kernel_rfl) ?_) | (refine wpList_mloadA rfl _ _ rfl _ rfl 1 H _ rfl (by decide +kernel) (by kernel_rfl) ?_) | (refine wpList_mloadA rfl _ _ rfl _ rfl 2 H _ rfl (by decide +kernel) (by kernel_rfl) ?_) | (refine wpList_mload1 rfl _ _ rfl _ _ rfl 0 H _ (.int _ _) rfl rfl (by decide +kernel) ?_) | (refine wpList_mload1 rfl _ _ rfl _ _ rfl 1 H _ (.int _ _) rfl rfl (by decide +kernel) ?_) | (refine wpList_mload1 rfl _ _ rfl _ _ rfl 2 H _ (.int _ _) rfl rfl (by decide +kernel) ?_) | (refine wpList_mload1 rfl _ _ rfl _ _ rfl 0 H _ (.bool _) rfl rfl (by decide +kernel) ?_) | (refine wpList_mload1 rfl _ _ rfl _ _ rfl 1 H _ (.bool _) rfl rfl (by decide +kernel) ?_) | (refine wpList_mload1 rfl _ _ rfl _ _ rfl 2 H _ (.bool _) rfl rfl (by decide +kernel) ?_) | (refine wpList_mload1 rfl _ _ rfl _ _ rfl 0 H _ (.pointer _) rfl rfl (by decide +kernel) ?_) | (refine wpList_mload1 rfl _ _ rfl _ _ rfl 1 H _ (.pointer _) rfl rfl (by decide +kernel) ?_) | (refine wpList_mload1 rfl _ _ rfl _ _ rfl 2 H _ (.pointer _) rfl rfl (by decide +kernel) ?_) | (refine wpList_mload1 rfl _ _ rfl _ _ rfl 0 H _ (.string _) rfl rfl (by decide +kernel) ?_) | (refine wpList_mload1 rfl _ _ rfl _ _ rfl 1 H _ (.string _) rfl rfl (by decide +kernel) ?_) | (refine wpList_mload1 rfl _ _ rfl _ _ rfl 2 H _ (.string _) rfl rfl (by decide +kernel) ?_) | (refine wpList_mload1 rfl _ _ rfl _ _ rfl 0 H _ (.slice _ _ _) rfl rfl (by decide +kernel) ?_) | (refine wpList_mload1 rfl _ _ rfl _ _ rfl 1 H _ (.slice _ _ _) rfl rfl (by decide +kernel) ?_) | (refine wpList_mload1 rfl _ _ rfl _ _ rfl 2 H _ (.slice _ _ _) rfl rfl (by decide +kernel) ?_)) | (refine gate_store _ _ _ rfl ?_; (first | (refine wpList_mstoreA rfl _ _ _ rfl rfl _ rfl 0 H _ _ rfl rfl (by kernel_rfl) (by kernel_rfl) (by kernel_rfl) ?_) | (refine wpList_mstoreA rfl _ _ _ rfl rfl _ rfl 1 H _ _ rfl rfl (by kernel_rfl) (by kernel_rfl) (by kernel_rfl) ?_) | (refine wpList_mstoreA rfl _ _ _ rfl rfl _ rfl 2 H _ _ rfl rfl (by kernel_rfl) (by kernel_rfl) (by kernel_rfl) ?_) | (refine wpList_mstore rfl _ _ _ rfl rfl _ _ rfl 0 H _ _ rfl (.int _ _) rfl (by kernel_rfl) (of_decide_eq_true (by kernel_rfl)) (by kernel_rfl) rfl ?_) | (refine wpList_mstore rfl _ _ _ rfl rfl _ _ rfl 1 H _ _ rfl (.int _ _) rfl (by kernel_rfl) (of_decide_eq_true (by kernel_rfl)) (by kernel_rfl) rfl ?_) | (refine wpList_mstore rfl _ _ _ rfl rfl _ _ rfl 2 H _ _ rfl (.int _ _) rfl (by kernel_rfl) (of_decide_eq_true (by kernel_rfl)) (by kernel_rfl) rfl ?_) | (refine wpList_mstore rfl _ _ _ rfl rfl _ _ rfl 0 H _ _ rfl (.bool _) rfl (by kernel_rfl) (of_decide_eq_true (by kernel_rfl)) (by kernel_rfl) rfl ?_) | (refine wpList_mstore rfl _ _ _ rfl rfl _ _ rfl 1 H _ _ rfl (.bool _) rfl (by kernel_rfl) (of_decide_eq_true (by kernel_rfl)) (by kernel_rfl) rfl ?_) | (refine wpList_mstore rfl _ _ _ rfl rfl _ _ rfl 2 H _ _ rfl (.bool _) rfl (by kernel_rfl) (of_decide_eq_true (by kernel_rfl)) (by kernel_rfl) rfl ?_) | (refine wpList_mstore rfl _ _ _ rfl rfl _ _ rfl 0 H _ _ rfl (.pointer _) rfl (by kernel_rfl) (of_decide_eq_true (by kernel_rfl)) (by kernel_rfl) rfl ?_) | (refine wpList_mstore rfl _ _ _ rfl rfl _ _ rfl 1 H _ _ rfl (.pointer _) rfl (by kernel_rfl) (of_decide_eq_true (by kernel_rfl)) (by kernel_rfl) rfl ?_) | (refine wpList_mstore rfl _ _ _ rfl rfl _ _ rfl 2 H _ _ rfl (.pointer _) rfl (by kernel_rfl) (of_decide_eq_true (by kernel_rfl)) (by kernel_rfl) rfl ?_) | (refine wpList_mstore rfl _ _ _ rfl rfl _ _ rfl 0 H _ _ rfl (.string _) rfl (by kernel_rfl) (of_decide_eq_true (by kernel_rfl)) (by kernel_rfl) rfl ?_) | (refine wpList_mstore rfl _ _ _ rfl rfl _ _ rfl 1 H _ _ rfl (.string _) rfl (by kernel_rfl) (of_decide_eq_true (by kernel_rfl)) (by kernel_rfl) rfl ?_) | (refine wpList_mstore rfl _ _ _ rfl rfl _ _ rfl 2 H _ _ rfl (.string _) rfl (by kernel_rfl) (of_decide_eq_true (by kernel_rfl)) (by kernel_rfl) rfl ?_) | (refine wpList_mstore rfl _ _ _ rfl rfl _ _ rfl 0 H _ _ rfl (.slice _ _ _) rfl (by kernel_rfl) (of_decide_eq_true (by kernel_rfl)) (by kernel_rfl) rfl ?_) | (refine wpList_mstore rfl _ _ _ rfl rfl _ _ rfl 1 H _ _ rfl (.slice _ _ _) rfl (by kernel_rfl) (of_decide_eq_true (by kernel_rfl)) (by kernel_rfl) rfl ?_) | (refine wpList_mstore rfl _ _ _ rfl rfl _ _ rfl 2 H _ _ rfl (.slice _ _ _) rfl (by kernel_rfl) (of_decide_eq_true (by kernel_rfl)) (by kernel_rfl) rfl ?_)); clear H; intro w1 H; simp only [List.set_cons_zero, List.set_cons_succ] at H)
    | (refine wpList_mnew rfl _ rfl H _ HZF.out ?_; clear H; intro _ w1 _ H)
    | (refine wpList_mnew rfl _ rfl H _ HZB.out ?_; clear H; intro _ w1 _ H) | fail)
  go_ret
  exact ⟨rfl, H.toBelow⟩
end Go.Proofs.Ytckfjiacnjjopaa
