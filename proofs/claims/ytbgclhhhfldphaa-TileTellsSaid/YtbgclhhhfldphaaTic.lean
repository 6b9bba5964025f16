/-
  Package tile's functions. Over this seat's translation; no condition. (Written by gen_ti.py.)
-/
import Derived.Test.YtbgclhhhfldphaaTim
import Derived.Test.YtbgclhhhfldphaaTgn
import Derived.Test.YtbgclhhhfldphaaAlp
import Derived.Test.YtbgclhhhfldphaaTas
import Derived.Test.YtbgclhhhfldphaaProg
import Derived.Outline
import Derived.LoopN
namespace Go.Proofs.Ytbgclhhhfldphaa
open Go.RowKit Go.Sort
set_option linter.unusedSimpArgs false
set_option linter.unusedVariables false
set_option maxRecDepth 20000

theorem alloc_ti (w : World) : (Instr.alloc 24 true (.tuple #[])).run Try.prog w = .ok (.pointer (some ⟨w.heap.size, 0, none⟩)) (w.alloc (.cells (tiC ti0) 24)) := by kernel_rfl
def Ti.set (t : Ti) (off : Nat) (x : BitVec 16) : Option Ti := match off with
  | 0 => some { t with lo := x }
  | 1 => some { t with hi := x }
  | 2 => some { t with one := x }
  | 3 => some { t with two := x }
  | 4 => some { t with s := x }
  | _ => none
theorem ti_I {t u : Ti} {off : Nat} {n : Int} {x : BitVec 16} (hn : n = w16 x) (h : t.set off x = some u) : (splice (tiC t).toList off (Value.cells (.int .u16 n)).toList).toArray = tiC u := by
  subst hn
  unfold Ti.set at h
  split at h <;> first | (cases h; done) | (injection h with h; subst h; rfl)
def nums (R : Nat) : Array Value := #[.pointer (some ⟨R, 0, none⟩), .pointer (some ⟨R, 1, none⟩), .pointer (some ⟨R, 2, none⟩), .pointer (some ⟨R, 3, none⟩), .pointer (some ⟨R, 4, none⟩)]
theorem alloc_n5 (w : World) : (Instr.alloc 41 true (.tuple #[])).run Try.prog w = .ok (.pointer (some ⟨w.heap.size, 0, none⟩)) (w.alloc (.cells #[.pointer none, .pointer none, .pointer none, .pointer none, .pointer none] 41)) := by kernel_rfl
theorem num_at0 (R : Nat) (w : World) : (Instr.index 41 (.agg (nums R)) (.int .i64 0)).run Try.prog w = .ok (.pointer (some ⟨R, 0, none⟩)) w := by kernel_rfl
theorem num_at1 (R : Nat) (w : World) : (Instr.index 41 (.agg (nums R)) (.int .i64 1)).run Try.prog w = .ok (.pointer (some ⟨R, 1, none⟩)) w := by kernel_rfl
theorem num_at2 (R : Nat) (w : World) : (Instr.index 41 (.agg (nums R)) (.int .i64 2)).run Try.prog w = .ok (.pointer (some ⟨R, 2, none⟩)) w := by kernel_rfl
theorem num_at3 (R : Nat) (w : World) : (Instr.index 41 (.agg (nums R)) (.int .i64 3)).run Try.prog w = .ok (.pointer (some ⟨R, 3, none⟩)) w := by kernel_rfl
theorem num_at4 (R : Nat) (w : World) : (Instr.index 41 (.agg (nums R)) (.int .i64 4)).run Try.prog w = .ok (.pointer (some ⟨R, 4, none⟩)) w := by kernel_rfl
theorem sh1_raw (x : BitVec 16) : IntKind.wrap .u16 (w16 x * 2) = w16 (x <<< 1) := by rw [IntKind.wrap_u16]; exact w16_shl1 x
set_option maxHeartbeats 2000000 in
theorem numbers_ct (R : Nat) (w : World) : Calls Try.prog 19 #[.pointer (some ⟨R, 0, none⟩)] w fun e w' => e = .returned (.agg (nums R)) ∧ Below w.heap.size w w' := by
  have HZP := Lib.hid alloc_n5
  have H := Mem.start w
  have M1 : True := trivial
  go_enter Try.func19, Try.ntmps19
  go_wp2_with (first | (clear M1; refine wpList_mnew rfl _ rfl H _ HZP.out ?_; clear H; intro Rr w1 _ H) | fail)
  (try simp only [Act.put, List.setIfInBounds_toArray, List.set_cons_succ, List.set_cons_zero])
  (refine wp_region_tails_below 16 (by kernel_rfl) (by kernel_rfl) ?_); (simp only [List.take_succ_cons, List.take_zero, List.drop_succ_cons, List.drop_zero]); (repeat (first | go_big_quiet_step ((first | fail)))); (refine wpQuiet_nil ?_); intro _ hw'; obtain ⟨⟨dq, osq⟩, hw''⟩ := hw'; (subst hw''); replace H := H.next (below_regrown _ dq osq); generalize Go.Sort.grow (redrawn _ dq) osq = wq at *
  go_wp2_with (first | (refine gate_store _ _ _ rfl ?_; refine wpList_mstoreA rfl 41 _ _ rfl rfl _ rfl 0 H _ _ rfl rfl (by kernel_rfl) (by kernel_rfl) (by kernel_rfl) ?_; clear H; intro w1 H; simp only [List.set_cons_zero, List.set_cons_succ] at H) | fail)
  refine ret_mem1 rfl _ rfl 0 H _ rfl (by kernel_rfl) (by kernel_rfl) rfl ?_
  exact ⟨rfl, H.toBelow⟩
set_option maxHeartbeats 2000000 in
theorem whole14_ct (b : Bool) (w : World) : Calls Try.prog 21 #[.bool b] w fun e w' => e = .returned (.int .u8 (w8 (all8 b))) ∧ Below w.heap.size w w' := by
  cases b
  all_goals
    go_enter Try.func21, Try.ntmps21
    go_wp2
    go_ret
    exact ⟨rfl, Below.refl _ _⟩
attribute [local irreducible] wpList
set_option maxHeartbeats 2000000 in
theorem tshift_ct (t : Ti) (w : World) : Calls Try.prog 12 #[.agg (tiC t)] w fun e w' => e = .returned (.agg (tiC (shiftT t))) ∧ Below w.heap.size w w' := by
  have HZ := Lib.hid alloc_ti
  have QN := Lib.hid (fun R wr => numbers_ct R wr)
  have H := Mem.start w
  have M1 : True := trivial
  have M2 : True := trivial
  go_enter Try.func12, Try.ntmps12
  go_wp2_with (first | (clear M1; refine wpList_mboxA rfl _ _ rfl H _ rfl ?_; clear H; intro Rc w1 _ H) | (clear M2; refine wpList_mnew rfl _ rfl H _ HZ.out ?_; clear H; intro Rr w1 _ H) | (go_at_call 19; (with_reducible refine (QN.out _ _).mono ?_); rintro e w2 ⟨rfl, hB⟩; replace H := H.next hB; clear hB) | fail)
  refine wp_loop_rounds (5 + 1) ?_
  rw [rounds_succ]
  go_wp2_with (first | (refine gate_tix _ _ _ rfl ?_; refine wpList_tix rfl _ _ _ rfl (.agg (nums _)) (.int .i64 0) _ rfl rfl (num_at0 _) ?_) | (refine gate_load _ _ rfl ?_; refine wpList_mload1 rfl 22 _ rfl _ _ rfl 1 H _ (.int .u16 _) rfl rfl (by decide +kernel) ?_) | (refine gate_store _ _ _ rfl ?_; refine wpList_mstore rfl 22 _ _ rfl rfl _ _ rfl 1 H _ _ rfl (.int .u16 _) rfl (by kernel_rfl) (of_decide_eq_true (by kernel_rfl)) (by kernel_rfl) (ti_I (sh1_raw _) rfl) ?_; clear H; intro w1 H; simp only [List.set_cons_zero, List.set_cons_succ] at H) | fail)
  rw [rounds_succ]
  go_wp2_with (first | (refine gate_tix _ _ _ rfl ?_; refine wpList_tix rfl _ _ _ rfl (.agg (nums _)) (.int .i64 1) _ rfl rfl (num_at1 _) ?_) | (refine gate_load _ _ rfl ?_; refine wpList_mload1 rfl 22 _ rfl _ _ rfl 1 H _ (.int .u16 _) rfl rfl (by decide +kernel) ?_) | (refine gate_store _ _ _ rfl ?_; refine wpList_mstore rfl 22 _ _ rfl rfl _ _ rfl 1 H _ _ rfl (.int .u16 _) rfl (by kernel_rfl) (of_decide_eq_true (by kernel_rfl)) (by kernel_rfl) (ti_I (sh1_raw _) rfl) ?_; clear H; intro w1 H; simp only [List.set_cons_zero, List.set_cons_succ] at H) | fail)
  rw [rounds_succ]
  go_wp2_with (first | (refine gate_tix _ _ _ rfl ?_; refine wpList_tix rfl _ _ _ rfl (.agg (nums _)) (.int .i64 2) _ rfl rfl (num_at2 _) ?_) | (refine gate_load _ _ rfl ?_; refine wpList_mload1 rfl 22 _ rfl _ _ rfl 1 H _ (.int .u16 _) rfl rfl (by decide +kernel) ?_) | (refine gate_store _ _ _ rfl ?_; refine wpList_mstore rfl 22 _ _ rfl rfl _ _ rfl 1 H _ _ rfl (.int .u16 _) rfl (by kernel_rfl) (of_decide_eq_true (by kernel_rfl)) (by kernel_rfl) (ti_I (sh1_raw _) rfl) ?_; clear H; intro w1 H; simp only [List.set_cons_zero, List.set_cons_succ] at H) | fail)
  rw [rounds_succ]
  go_wp2_with (first | (refine gate_tix _ _ _ rfl ?_; refine wpList_tix rfl _ _ _ rfl (.agg (nums _)) (.int .i64 3) _ rfl rfl (num_at3 _) ?_) | (refine gate_load _ _ rfl ?_; refine wpList_mload1 rfl 22 _ rfl _ _ rfl 1 H _ (.int .u16 _) rfl rfl (by decide +kernel) ?_) | (refine gate_store _ _ _ rfl ?_; refine wpList_mstore rfl 22 _ _ rfl rfl _ _ rfl 1 H _ _ rfl (.int .u16 _) rfl (by kernel_rfl) (of_decide_eq_true (by kernel_rfl)) (by kernel_rfl) (ti_I (sh1_raw _) rfl) ?_; clear H; intro w1 H; simp only [List.set_cons_zero, List.set_cons_succ] at H) | fail)
  rw [rounds_succ]
  go_wp2_with (first | (refine gate_tix _ _ _ rfl ?_; refine wpList_tix rfl _ _ _ rfl (.agg (nums _)) (.int .i64 4) _ rfl rfl (num_at4 _) ?_) | (refine gate_load _ _ rfl ?_; refine wpList_mload1 rfl 22 _ rfl _ _ rfl 1 H _ (.int .u16 _) rfl rfl (by decide +kernel) ?_) | (refine gate_store _ _ _ rfl ?_; refine wpList_mstore rfl 22 _ _ rfl rfl _ _ rfl 1 H _ _ rfl (.int .u16 _) rfl (by kernel_rfl) (of_decide_eq_true (by kernel_rfl)) (by kernel_rfl) (ti_I (sh1_raw _) rfl) ?_; clear H; intro w1 H; simp only [List.set_cons_zero, List.set_cons_succ] at H) | fail)
  rw [rounds_succ]
  go_wp2_with (first | (refine gate_load _ _ rfl ?_; refine wpList_mloadA rfl 24 _ rfl _ rfl 1 H (tiC _) rfl (by decide +kernel) (by kernel_rfl) ?_) | (refine gate_store _ _ _ rfl ?_; refine wpList_mstoreA rfl 24 _ _ rfl rfl _ rfl 0 H (tiC _) _ rfl rfl (by kernel_rfl) (by kernel_rfl) (by kernel_rfl) ?_; clear H; intro w1 H; simp only [List.set_cons_zero, List.set_cons_succ] at H) | fail)
  refine ret_mem1 rfl _ rfl 0 H _ rfl (by kernel_rfl) (by kernel_rfl) rfl ?_
  exact ⟨rfl, H.toBelow⟩
set_option maxHeartbeats 2000000 in
theorem terase_ct (t : Ti) (w : World) : Calls Try.prog 14 #[.agg (tiC t)] w fun e w' => e = .returned (.agg (tiC (eraseT t))) ∧ Below w.heap.size w w' := by
  have HZ := Lib.hid alloc_ti
  have QN := Lib.hid (fun R wr => numbers_ct R wr)
  have H := Mem.start w
  have M1 : True := trivial
  have M2 : True := trivial
  go_enter Try.func14, Try.ntmps14
  go_wp2_with (first | (clear M1; refine wpList_mboxA rfl _ _ rfl H _ rfl ?_; clear H; intro Rc w1 _ H) | (clear M2; refine wpList_mnew rfl _ rfl H _ HZ.out ?_; clear H; intro Rr w1 _ H) | (refine gate_store _ _ _ rfl ?_; refine wpList_mstore rfl 22 _ _ rfl rfl _ _ rfl 1 H _ _ rfl (.int .u16 _) rfl (by kernel_rfl) (of_decide_eq_true (by kernel_rfl)) (by kernel_rfl) (ti_I (show (0 : Int) = w16 0 by decide) rfl) ?_; clear H; intro w1 H; simp only [List.set_cons_zero, List.set_cons_succ] at H) | (refine gate_load _ _ rfl ?_; refine wpList_mloadA rfl 24 _ rfl _ rfl 1 H (tiC _) rfl (by decide +kernel) (by kernel_rfl) ?_) | (refine gate_store _ _ _ rfl ?_; refine wpList_mstoreA rfl 24 _ _ rfl rfl _ rfl 0 H (tiC _) _ rfl rfl (by kernel_rfl) (by kernel_rfl) (by kernel_rfl) ?_; clear H; intro w1 H; simp only [List.set_cons_zero, List.set_cons_succ] at H) | fail)
  refine ret_mem1 rfl _ rfl 0 H _ rfl (by kernel_rfl) (by kernel_rfl) rfl ?_
  exact ⟨rfl, H.toBelow⟩
set_option maxHeartbeats 2000000 in
theorem tlow_ct (t : Ti) (w : World) : Calls Try.prog 24 #[.agg (tiC t)] w fun e w' => e = .returned (.agg (tiC (lowT t))) ∧ Below w.heap.size w w' := by
  have HZ := Lib.hid alloc_ti
  have QN := Lib.hid (fun R wr => numbers_ct R wr)
  have H := Mem.start w
  have M1 : True := trivial
  have M2 : True := trivial
  go_enter Try.func24, Try.ntmps24
  go_wp2_with (first | (clear M1; refine wpList_mboxA rfl _ _ rfl H _ rfl ?_; clear H; intro Rc w1 _ H) | (clear M2; refine wpList_mnew rfl _ rfl H _ HZ.out ?_; clear H; intro Rr w1 _ H) | (refine gate_load _ _ rfl ?_; refine wpList_mload1 rfl 22 _ rfl _ _ rfl 1 H _ (.int .u16 _) rfl rfl (by decide +kernel) ?_) | (go_at_call 19; (with_reducible refine (QN.out _ _).mono ?_); rintro e w2 ⟨rfl, hB⟩; replace H := H.next hB; clear hB) | fail)
  refine wp_loop_rounds (5 + 1) ?_
  rw [rounds_succ]
  go_wp2_with (first | (refine gate_tix _ _ _ rfl ?_; refine wpList_tix rfl _ _ _ rfl (.agg (nums _)) (.int .i64 0) _ rfl rfl (num_at0 _) ?_) | (refine gate_load _ _ rfl ?_; refine wpList_mload1 rfl 22 _ rfl _ _ rfl 1 H _ (.int .u16 _) rfl rfl (by decide +kernel) ?_) | (refine gate_store _ _ _ rfl ?_; refine wpList_mstore rfl 22 _ _ rfl rfl _ _ rfl 1 H _ _ rfl (.int .u16 _) rfl (by kernel_rfl) (of_decide_eq_true (by kernel_rfl)) (by kernel_rfl) (ti_I (v16_an _ _) rfl) ?_; clear H; intro w1 H; simp only [List.set_cons_zero, List.set_cons_succ] at H) | fail)
  rw [rounds_succ]
  go_wp2_with (first | (refine gate_tix _ _ _ rfl ?_; refine wpList_tix rfl _ _ _ rfl (.agg (nums _)) (.int .i64 1) _ rfl rfl (num_at1 _) ?_) | (refine gate_load _ _ rfl ?_; refine wpList_mload1 rfl 22 _ rfl _ _ rfl 1 H _ (.int .u16 _) rfl rfl (by decide +kernel) ?_) | (refine gate_store _ _ _ rfl ?_; refine wpList_mstore rfl 22 _ _ rfl rfl _ _ rfl 1 H _ _ rfl (.int .u16 _) rfl (by kernel_rfl) (of_decide_eq_true (by kernel_rfl)) (by kernel_rfl) (ti_I (v16_an _ _) rfl) ?_; clear H; intro w1 H; simp only [List.set_cons_zero, List.set_cons_succ] at H) | fail)
  rw [rounds_succ]
  go_wp2_with (first | (refine gate_tix _ _ _ rfl ?_; refine wpList_tix rfl _ _ _ rfl (.agg (nums _)) (.int .i64 2) _ rfl rfl (num_at2 _) ?_) | (refine gate_load _ _ rfl ?_; refine wpList_mload1 rfl 22 _ rfl _ _ rfl 1 H _ (.int .u16 _) rfl rfl (by decide +kernel) ?_) | (refine gate_store _ _ _ rfl ?_; refine wpList_mstore rfl 22 _ _ rfl rfl _ _ rfl 1 H _ _ rfl (.int .u16 _) rfl (by kernel_rfl) (of_decide_eq_true (by kernel_rfl)) (by kernel_rfl) (ti_I (v16_an _ _) rfl) ?_; clear H; intro w1 H; simp only [List.set_cons_zero, List.set_cons_succ] at H) | fail)
  rw [rounds_succ]
  go_wp2_with (first | (refine gate_tix _ _ _ rfl ?_; refine wpList_tix rfl _ _ _ rfl (.agg (nums _)) (.int .i64 3) _ rfl rfl (num_at3 _) ?_) | (refine gate_load _ _ rfl ?_; refine wpList_mload1 rfl 22 _ rfl _ _ rfl 1 H _ (.int .u16 _) rfl rfl (by decide +kernel) ?_) | (refine gate_store _ _ _ rfl ?_; refine wpList_mstore rfl 22 _ _ rfl rfl _ _ rfl 1 H _ _ rfl (.int .u16 _) rfl (by kernel_rfl) (of_decide_eq_true (by kernel_rfl)) (by kernel_rfl) (ti_I (v16_an _ _) rfl) ?_; clear H; intro w1 H; simp only [List.set_cons_zero, List.set_cons_succ] at H) | fail)
  rw [rounds_succ]
  go_wp2_with (first | (refine gate_tix _ _ _ rfl ?_; refine wpList_tix rfl _ _ _ rfl (.agg (nums _)) (.int .i64 4) _ rfl rfl (num_at4 _) ?_) | (refine gate_load _ _ rfl ?_; refine wpList_mload1 rfl 22 _ rfl _ _ rfl 1 H _ (.int .u16 _) rfl rfl (by decide +kernel) ?_) | (refine gate_store _ _ _ rfl ?_; refine wpList_mstore rfl 22 _ _ rfl rfl _ _ rfl 1 H _ _ rfl (.int .u16 _) rfl (by kernel_rfl) (of_decide_eq_true (by kernel_rfl)) (by kernel_rfl) (ti_I (v16_an _ _) rfl) ?_; clear H; intro w1 H; simp only [List.set_cons_zero, List.set_cons_succ] at H) | fail)
  rw [rounds_succ]
  go_wp2_with (first | (refine gate_load _ _ rfl ?_; refine wpList_mloadA rfl 24 _ rfl _ rfl 1 H (tiC _) rfl (by decide +kernel) (by kernel_rfl) ?_) | (refine gate_store _ _ _ rfl ?_; refine wpList_mstoreA rfl 24 _ _ rfl rfl _ rfl 0 H (tiC _) _ rfl rfl (by kernel_rfl) (by kernel_rfl) (by kernel_rfl) ?_; clear H; intro w1 H; simp only [List.set_cons_zero, List.set_cons_succ] at H) | fail)
  refine ret_mem1 rfl _ rfl 0 H _ rfl (by kernel_rfl) (by kernel_rfl) rfl ?_
  exact ⟨rfl, H.toBelow⟩
end Go.Proofs.Ytbgclhhhfldphaa
