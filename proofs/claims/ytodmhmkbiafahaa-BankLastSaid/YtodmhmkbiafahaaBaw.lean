/-
  Layer 7's awake: the chapter's examples. Over this seat's translation; no condition.
-/
import Derived.Test.YtodmhmkbiafahaaBrc
import Derived.Test.YtodmhmkbiafahaaOpb
namespace Go.Proofs.Ytodmhmkbiafahaa
open Go.RowKit
set_option linter.unusedSimpArgs false
set_option linter.unusedVariables false
set_option maxRecDepth 20000

theorem oct0 (k b : Int) (h0 : 0 ≤ b) (h1 : b < 256) : Mp.oct { mp0 with k := k, bk := b } := by
  unfold Mp.oct mp0
  simp
  omega
set_option maxHeartbeats 2000000 in
theorem bawake_ct (w : World) : Calls Try.prog 13 #[] w fun e w' => e = .returned (.bool true) ∧ Below w.heap.size w w' := by
  have K1 := fun wr => bprg_ct { mp0 with k := 2, bk := 1 } (oct0 2 1 (by decide) (by decide)) 65536 32768 wr (by decide) (by decide)
  have K2 := fun wr => bprg_ct { mp0 with k := 2, bk := 1 } (oct0 2 1 (by decide) (by decide)) 65536 49152 wr (by decide) (by decide)
  have K3 := fun wr => bprg_ct { mp0 with k := 0, bk := 0 } (oct0 0 0 (by decide) (by decide)) 16384 49152 wr (by decide) (by decide)
  have K4 := fun wr => bprg_ct { mp0 with k := 4, bk := 0 } (oct0 4 0 (by decide) (by decide)) 65536 57344 wr (by decide) (by decide)
  rw [show prgV { mp0 with k := 2, bk := 1 } 65536 32768 = 16384 by decide +kernel, show okP { mp0 with k := 2, bk := 1 } 65536 32768 = true by decide +kernel] at K1
  rw [show prgV { mp0 with k := 2, bk := 1 } 65536 49152 = 49152 by decide +kernel, show okP { mp0 with k := 2, bk := 1 } 65536 49152 = true by decide +kernel] at K2
  rw [show prgV { mp0 with k := 0, bk := 0 } 16384 49152 = 0 by decide +kernel, show okP { mp0 with k := 0, bk := 0 } 16384 49152 = true by decide +kernel] at K3
  rw [show prgV { mp0 with k := 4, bk := 0 } 65536 57344 = 57344 by decide +kernel, show okP { mp0 with k := 4, bk := 0 } 65536 57344 = true by decide +kernel] at K4
  simp only [mpV, mpC, mp0, errN, if_true] at K1 K2 K3 K4
  have Q1 := Lib.hid K1
  have Q2 := Lib.hid K2
  have Q3 := Lib.hid K3
  have Q4 := Lib.hid K4
  clear K1 K2 K3 K4
  have HZ := Lib.hid alloc_mapb
  have H := Mem.start w
  go_enter Try.func13, Try.ntmps13
  go_wp2_with (first
    | (go_at_call 9; first
        | (with_reducible refine (Q1.out _).mono ?_; rintro e w2 ⟨rfl, hB⟩; replace H := H.next hB; clear hB)
        | (with_reducible refine (Q2.out _).mono ?_; rintro e w2 ⟨rfl, hB⟩; replace H := H.next hB; clear hB)
        | (with_reducible refine (Q3.out _).mono ?_; rintro e w2 ⟨rfl, hB⟩; replace H := H.next hB; clear hB)
        | (with_reducible refine (Q4.out _).mono ?_; rintro e w2 ⟨rfl, hB⟩; replace H := H.next hB; clear hB))
    | go_skip | (refine wpList_mboxA rfl _ _ rfl H _ rfl ?_; clear H; intro _ w1 _ H) | (refine gate_load _ _ rfl ?_; first | (refine wpList_mloadA rfl _ _ rfl _ rfl 0 H _ rfl (by decide +kernel) (by kernel_rfl) ?_) | (refine wpList_mloadA rfl _ _ rfl _ rfl 1 H _ rfl (by decide +kernel) (by kernel_rfl) ?_) | (refine wpList_mload1 rfl _ _ rfl _ _ rfl 0 H _ (.int _ _) rfl rfl (by decide +kernel) ?_) | (refine wpList_mload1 rfl _ _ rfl _ _ rfl 1 H _ (.int _ _) rfl rfl (by decide +kernel) ?_) | (refine wpList_mload1 rfl _ _ rfl _ _ rfl 0 H _ (.bool _) rfl rfl (by decide +kernel) ?_) | (refine wpList_mload1 rfl _ _ rfl _ _ rfl 1 H _ (.bool _) rfl rfl (by decide +kernel) ?_) | (refine wpList_mload1 rfl _ _ rfl _ _ rfl 0 H _ (.pointer _) rfl rfl (by decide +kernel) ?_) | (refine wpList_mload1 rfl _ _ rfl _ _ rfl 1 H _ (.pointer _) rfl rfl (by decide +kernel) ?_) | (refine wpList_mload1 rfl _ _ rfl _ _ rfl 0 H _ (.string _) rfl rfl (by decide +kernel) ?_) | (refine wpList_mload1 rfl _ _ rfl _ _ rfl 1 H _ (.string _) rfl rfl (by decide +kernel) ?_) | (refine wpList_mload1 rfl _ _ rfl _ _ rfl 0 H _ (.slice _ _ _) rfl rfl (by decide +kernel) ?_) | (refine wpList_mload1 rfl _ _ rfl _ _ rfl 1 H _ (.slice _ _ _) rfl rfl (by decide +kernel) ?_)) | (refine gate_store _ _ _ rfl ?_; (first | (refine wpList_mstoreA rfl _ _ _ rfl rfl _ rfl 0 H _ _ rfl rfl (by kernel_rfl) (by kernel_rfl) (by kernel_rfl) ?_) | (refine wpList_mstoreA rfl _ _ _ rfl rfl _ rfl 1 H _ _ rfl rfl (by kernel_rfl) (by kernel_rfl) (by kernel_rfl) ?_) | (refine wpList_mstore rfl _ _ _ rfl rfl _ _ rfl 0 H _ _ rfl (.int _ _) rfl (by kernel_rfl) (of_decide_eq_true (by kernel_rfl)) (by kernel_rfl) rfl ?_) | (refine wpList_mstore rfl _ _ _ rfl rfl _ _ rfl 1 H _ _ rfl (.int _ _) rfl (by kernel_rfl) (of_decide_eq_true (by kernel_rfl)) (by kernel_rfl) rfl ?_) | (refine wpList_mstore rfl _ _ _ rfl rfl _ _ rfl 0 H _ _ rfl (.bool _) rfl (by kernel_rfl) (of_decide_eq_true (by kernel_rfl)) (by kernel_rfl) rfl ?_) | (refine wpList_mstore rfl _ _ _ rfl rfl _ _ rfl 1 H _ _ rfl (.bool _) rfl (by kernel_rfl) (of_decide_eq_true (by kernel_rfl)) (by kernel_rfl) rfl ?_) | (refine wpList_mstore rfl _ _ _ rfl rfl _ _ rfl 0 H _ _ rfl (.pointer _) rfl (by kernel_rfl) (of_decide_eq_true (by kernel_rfl)) (by kernel_rfl) rfl ?_) | (refine wpList_mstore rfl _ _ _ rfl rfl _ _ rfl 1 H _ _ rfl (.pointer _) rfl (by kernel_rfl) (of_decide_eq_true (by kernel_rfl)) (by kernel_rfl) rfl ?_) | (refine wpList_mstore rfl _ _ _ rfl rfl _ _ rfl 0 H _ _ rfl (.string _) rfl (by kernel_rfl) (of_decide_eq_true (by kernel_rfl)) (by kernel_rfl) rfl ?_) | (refine wpList_mstore rfl _ _ _ rfl rfl _ _ rfl 1 H _ _ rfl (.string _) rfl (by kernel_rfl) (of_decide_eq_true (by kernel_rfl)) (by kernel_rfl) rfl ?_) | (refine wpList_mstore rfl _ _ _ rfl rfl _ _ rfl 0 H _ _ rfl (.slice _ _ _) rfl (by kernel_rfl) (of_decide_eq_true (by kernel_rfl)) (by kernel_rfl) rfl ?_) | (refine wpList_mstore rfl _ _ _ rfl rfl _ _ rfl 1 H _ _ rfl (.slice _ _ _) rfl (by kernel_rfl) (of_decide_eq_true (by kernel_rfl)) (by kernel_rfl) rfl ?_)); clear H; intro w1 H; simp only [List.set_cons_zero, List.set_cons_succ, mp_all] at H)
    | (refine wpList_mnew rfl _ rfl H _ HZ.out ?_; clear H; intro _ w1 _ H))
  go_ret
  exact ⟨rfl, H.toBelow⟩
end Go.Proofs.Ytodmhmkbiafahaa
