/-
  Several texts in one: what is read and written by the functions on the way to the statements. Conditions stand in each theorem.
-/
import Derived.Test.YtbonamhinnhlnaaGreatDoorP15
import Derived.Test.YtbonamhinnhlnaaGreatDoorP28
import Derived.Deep.CutBlock
namespace Go.Proofs.YtbonamhinnhlnaaGreatDoor
open Go.RowKit
set_option linter.unusedSimpArgs false
set_option linter.unusedVariables false
set_option maxRecDepth 20000

theorem Mem.cong {n : Nat} {X : List Nat} {w0 w : World} {l l' : List (Nat × Array Value)} (H : Mem n X w0 w l) (e : l = l') : Mem n X w0 w l' := e ▸ H
theorem got_t {s : Wk} {n : Bool} (h : (n && !s.nmi) = true) : s.uGot true = s.uGot (gotB s.toCp n) := by
  unfold gotB
  rw [h, Bool.or_true]
theorem got_f {s : Wk} {n : Bool} (h : (n && !s.nmi) = false) : s = s.uGot (gotB s.toCp n) := by
  unfold gotB
  rw [h, Bool.or_false]
  rfl
theorem ctl_t {s : Wk} {b : Bool} (h : b = true) : s.uCtl true = s.uCtl (s.ctl || b) := by rw [h, Bool.or_true]
theorem ctl_f {s : Wk} {b : Bool} (h : b = false) : s = s.uCtl (s.ctl || b) := by
  rw [h, Bool.or_false]
  rfl
def pendB (g i f : Bool) : Int := if g then 2 else if i && !f then 1 else 0
def pendW (s : Wk) (g i f : Bool) : Wk := s.uPend (pendB g i f)
theorem pend_1 {s : Wk} {g i f : Bool} (h : g = true) : s.uPend 2 = pendW s g i f := by subst h; rfl
theorem pend_4 {s : Wk} {g f : Bool} (h : g = false) : s.uPend 0 = pendW s g false f := by subst h; rfl
theorem pend_2 {s : Wk} {g f : Bool} (h : g = false) (hf : (oneI f == 0) = true) : s.uPend 1 = pendW s g true f := by subst h; cases f <;> first | rfl | cases hf
theorem pend_3 {s : Wk} {g f : Bool} (h : g = false) (hf : (oneI f == 0) = false) : s.uPend 0 = pendW s g true f := by subst h; cases f <;> first | rfl | cases hf
theorem hear_f (s : Wk) (i n : Bool) : pendW (((s.uGot (gotB s.toCp n)).uNmi n).uCtl (s.ctl || hasV s.ps 4)) (gotB s.toCp n) i (hasV s.p 4) = hearW s i n false := by
  unfold hearW pendW pendB
  generalize gotB s.toCp n = g
  generalize hasV s.ps 4 = a
  generalize hasV s.p 4 = b
  rfl
theorem upd3 (q : Wk) (r : Bool) (h : r = true) : (if r then ({ q with t := 0, intr := 3, jam := false } : Wk) else q) = ((q.uT 0).uIntr 3).uJam false := by
  subst h
  rw [if_pos rfl]
  rfl
theorem updF (q : Wk) : (if false = true then ({ q with t := 0, intr := 3, jam := false } : Wk) else q) = q := if_neg Bool.false_ne_true
theorem hear_t (s : Wk) (i n : Bool) : (((pendW (((s.uGot (gotB s.toCp n)).uNmi n).uCtl (s.ctl || hasV s.ps 4)) (gotB s.toCp n) i (hasV s.p 4)).uT 0).uIntr 3).uJam false = hearW s i n true := by
  rw [hear_f s i n]
  unfold hearW
  generalize ({ s with got := gotB s.toCp n, nmi := n, ctl := s.ctl || hasV s.ps 4, pend := if gotB s.toCp n then 2 else if i && !hasV s.p 4 then 1 else 0 } : Wk) = q
  exact ((upd3 q true rfl).trans (congrArg (fun z : Wk => ((z.uT 0).uIntr 3).uJam false) (updF q).symm)).symm
attribute [local irreducible] wpList
set_option maxHeartbeats 8000000 in
theorem hear_ct (s : Wk) (i n r : Bool) (F : Fiw s) : ∀ (R : Nat) (T : TypeId) (w : World), w.heap[R]? = some (.cells (wkC s) T) → Calls Tryz.prog 55 #[.pointer (some ⟨R, 0, none⟩), .agg #[.bool i, .bool n, .bool r]] w fun e w' => e = .returned (.tuple #[]) ∧ Mem w.heap.size [R] w w' [(R, wkC (hearW s i n r))] := by
  intro R T w hR
  have FF := F
  obtain ⟨⟨a0, a1, x0, x1, y0, y1, s0, s1, p0, p1, q0, q1, cp, cq, pc0, pc1, op0, op1, ad0, ad1, d0, d1⟩, v0, v1⟩ := F
  have F := FF
  clear cp cq FF
  have HZB := Lib.hid alloc_by
  have HZU := Lib.hid alloc_bus
  have MR1 : True := trivial
  have H := Mem.begin hR
  clear hR
  go_enter Tryz.func55, Tryz.ntmps55
  go_upto_region 1 with (first | (refine wpList_mboxA rfl _ _ rfl H _ rfl ?_; clear H; (first | (clear MR1; intro R1 w1 _ H))) | go_skip | fail)
  (try simp only [Act.put, List.setIfInBounds_toArray, List.set_cons_succ, List.set_cons_zero])
  go_cut [14] (fun t wx => t = .bool (n && !s.nmi) ∧ Mem w.heap.size [R] w wx [(R1, #[.bool i, .bool n, .bool r]), (R, wkC s)])
  case first =>
    cases n
    · go_wp2_with (first | go_skip | (refine gate_load _ _ rfl ?_; first | (refine wpList_mload1 rfl _ _ rfl _ _ rfl 0 H _ (.bool _) rfl rfl (by decide +kernel) ?_)) | fail)
      all_goals (go_meet; exact ⟨by simp_all, H⟩)
    · go_wp2_with (first | go_skip | (refine gate_load _ _ rfl ?_; first | (refine wpList_mload1 rfl _ _ rfl _ _ rfl 0 H _ (.bool _) rfl rfl (by decide +kernel) ?_) | (refine wpList_mload1 rfl _ _ rfl _ _ rfl 1 H _ (.bool _) rfl rfl (by decide +kernel) ?_)) | fail)
      all_goals (go_meet; exact ⟨by simp_all, H⟩)
  case rest =>
  clear H
  obtain ⟨rfl, H⟩ := hcut
  go_upto_if 14 with fail
  (try simp only [Act.put, List.setIfInBounds_toArray, List.set_cons_succ, List.set_cons_zero])
  go_cut [] (fun wx => Mem w.heap.size [R] w wx [(R1, #[.bool i, .bool n, .bool r]), (R, wkC (s.uGot (gotB s.toCp n)))])
  case first =>
    cases hg : (n && !s.nmi)
    · go_wp2_with fail
      go_meet
      exact H.cong (congrArg (fun S => [_, (_, wkC S)]) (got_f hg))
    · go_wp2_with (first | go_skip | (refine gate_store _ _ _ rfl ?_; (first | (refine wpList_mstore rfl _ _ _ rfl rfl _ _ rfl 1 H _ _ rfl (.bool _) rfl (by kernel_rfl) (of_decide_eq_true (by kernel_rfl)) (by kernel_rfl) (st_B rfl) ?_)); clear H; intro w1 H; simp only [List.set_cons_zero, List.set_cons_succ] at H) | fail)
      go_meet
      exact H.cong (congrArg (fun S => [_, (_, wkC S)]) (got_t hg))
  case rest =>
  clear H
  have H := hcut
  clear hcut
  have MR2 : True := trivial
  go_upto_if 32 with (first | (go_at_call 85; (with_reducible refine (aget_ct _ _ _ _ (by first | assumption | with_unfolding_all exact p0) (by first | assumption | with_unfolding_all exact p1) (by first | assumption | with_unfolding_all exact q0) (by first | assumption | with_unfolding_all exact q1) (by decide) (by decide)).mono ?_); rintro e w2 ⟨rfl, hB⟩; replace H := H.next hB; clear hB) | go_skip | (refine gate_load _ _ rfl ?_; first | (refine wpList_mload1 rfl _ _ rfl _ _ rfl 0 H _ (.bool _) rfl rfl (by decide +kernel) ?_) | (refine wpList_mload rfl 25 _ rfl _ _ rfl 1 H _ #[.int .u8 _, .int .u8 _] rfl (by decide +kernel) (by kernel_rfl) (part2 rfl rfl) ?_)) | (refine gate_store _ _ _ rfl ?_; (first | (refine wpList_mstoreA rfl 23 _ _ rfl rfl _ rfl 0 H #[.int .u8 _, .bool _] _ rfl rfl (by kernel_rfl) (by kernel_rfl) (by kernel_rfl) ?_) | (refine wpList_mstore rfl _ _ _ rfl rfl _ _ rfl 1 H _ _ rfl (.bool _) rfl (by kernel_rfl) (of_decide_eq_true (by kernel_rfl)) (by kernel_rfl) (st_B rfl) ?_)); clear H; intro w1 H; simp only [List.set_cons_zero, List.set_cons_succ] at H) | (refine wpList_mnew rfl _ rfl H _ HZB.out ?_; clear H; (first | (clear MR2; intro R2 w1 _ H))) | fail)
  (try simp only [Act.put, List.setIfInBounds_toArray, List.set_cons_succ, List.set_cons_zero])
  (try simp only [show hasV (((s.uGot (gotB s.toCp n)).uNmi n)).ps 4 = hasV s.ps 4 from rfl])
  replace H : Mem w.heap.size [R] w _ [(R2, #[.int .u8 (oneI (hasV s.p 4)), .bool (hasV s.ps 4)]), (R1, #[.bool i, .bool n, .bool r]), (R, wkC ((s.uGot (gotB s.toCp n)).uNmi n))] := H
  go_cut [] (fun wx => Mem w.heap.size [R] w wx [(R2, #[.int .u8 (oneI (hasV s.p 4)), .bool (hasV s.ps 4)]), (R1, #[.bool i, .bool n, .bool r]), (R, wkC (((s.uGot (gotB s.toCp n)).uNmi n).uCtl (s.ctl || hasV s.ps 4)))])
  case first =>
    cases hg : hasV s.ps 4
    · go_wp2_with fail
      go_meet
      exact H.cong (congrArg (fun S => [(R2, #[.int .u8 (oneI (hasV s.p 4)), .bool (hasV s.ps 4)]), (R1, #[.bool i, .bool n, .bool r]), (R, wkC S)]) (ctl_f (s := ((s.uGot (gotB s.toCp n)).uNmi n)) hg))
    · go_wp2_with (first | go_skip | (refine gate_store _ _ _ rfl ?_; (first | (refine wpList_mstore rfl _ _ _ rfl rfl _ _ rfl 2 H _ _ rfl (.bool _) rfl (by kernel_rfl) (of_decide_eq_true (by kernel_rfl)) (by kernel_rfl) (st_B rfl) ?_)); clear H; intro w1 H; simp only [List.set_cons_zero, List.set_cons_succ] at H) | fail)
      go_meet
      exact H.cong (congrArg (fun S => [(R2, #[.int .u8 (oneI (hasV s.p 4)), .bool (hasV s.ps 4)]), (R1, #[.bool i, .bool n, .bool r]), (R, wkC S)]) (ctl_t (s := ((s.uGot (gotB s.toCp n)).uNmi n)) hg))
  case rest =>
  clear H
  have H := hcut
  clear hcut
  go_upto_block 0 with (first | go_skip | fail)
  (try simp only [Act.put, List.setIfInBounds_toArray, List.set_cons_succ, List.set_cons_zero])
  go_cut [] (fun wx => Mem w.heap.size [R] w wx [(R2, #[.int .u8 (oneI (hasV s.p 4)), .bool (hasV s.ps 4)]), (R1, #[.bool i, .bool n, .bool r]), (R, wkC (pendW (((s.uGot (gotB s.toCp n)).uNmi n).uCtl (s.ctl || hasV s.ps 4)) (gotB s.toCp n) i (hasV s.p 4)))])
  case first =>
    cases i
    · go_wp2_with (first | go_skip | (refine gate_load _ _ rfl ?_; first | (refine wpList_mload1 rfl _ _ rfl _ _ rfl 1 H _ (.bool _) rfl rfl (by decide +kernel) ?_) | (refine wpList_mload1 rfl _ _ rfl _ _ rfl 2 H _ (.bool _) rfl rfl (by decide +kernel) ?_)) | (refine gate_store _ _ _ rfl ?_; (first | (refine wpList_mstore rfl _ _ _ rfl rfl _ _ rfl 2 H _ _ rfl (.int _ _) rfl (by kernel_rfl) (of_decide_eq_true (by kernel_rfl)) (by kernel_rfl) (st_I rfl) ?_)); clear H; intro w1 H; simp only [List.set_cons_zero, List.set_cons_succ] at H) | fail)
      all_goals (
        go_meet
        first | ((have hh : (((s.uGot (gotB s.toCp n)).uNmi n).uCtl (s.ctl || hasV s.ps 4)).got = true := by assumption); exact H.cong (congrArg (fun S => [(R2, #[.int .u8 (oneI (hasV s.p 4)), .bool (hasV s.ps 4)]), (R1, #[.bool false, .bool n, .bool r]), (R, wkC S)]) (pend_1 hh))) | ((have hh : (((s.uGot (gotB s.toCp n)).uNmi n).uCtl (s.ctl || hasV s.ps 4)).got = false := by assumption); exact H.cong (congrArg (fun S => [(R2, #[.int .u8 (oneI (hasV s.p 4)), .bool (hasV s.ps 4)]), (R1, #[.bool false, .bool n, .bool r]), (R, wkC S)]) (pend_4 hh))))
    · go_wp2_with (first | go_skip | (refine gate_load _ _ rfl ?_; first | (refine wpList_mload1 rfl _ _ rfl _ _ rfl 0 H _ (.int _ _) rfl rfl (by decide +kernel) ?_) | (refine wpList_mload1 rfl _ _ rfl _ _ rfl 1 H _ (.bool _) rfl rfl (by decide +kernel) ?_) | (refine wpList_mload1 rfl _ _ rfl _ _ rfl 2 H _ (.bool _) rfl rfl (by decide +kernel) ?_)) | (refine gate_store _ _ _ rfl ?_; (first | (refine wpList_mstore rfl _ _ _ rfl rfl _ _ rfl 2 H _ _ rfl (.int _ _) rfl (by kernel_rfl) (of_decide_eq_true (by kernel_rfl)) (by kernel_rfl) (st_I rfl) ?_)); clear H; intro w1 H; simp only [List.set_cons_zero, List.set_cons_succ] at H) | fail)
      all_goals (
        go_meet
        first | ((have hh : (((s.uGot (gotB s.toCp n)).uNmi n).uCtl (s.ctl || hasV s.ps 4)).got = true := by assumption); exact H.cong (congrArg (fun S => [(R2, #[.int .u8 (oneI (hasV s.p 4)), .bool (hasV s.ps 4)]), (R1, #[.bool true, .bool n, .bool r]), (R, wkC S)]) (pend_1 hh))) | ((have hh : (((s.uGot (gotB s.toCp n)).uNmi n).uCtl (s.ctl || hasV s.ps 4)).got = false := by assumption); (have hf : (oneI (hasV s.p 4) == 0) = true := by assumption); exact H.cong (congrArg (fun S => [(R2, #[.int .u8 (oneI (hasV s.p 4)), .bool (hasV s.ps 4)]), (R1, #[.bool true, .bool n, .bool r]), (R, wkC S)]) (pend_2 hh hf))) | ((have hh : (((s.uGot (gotB s.toCp n)).uNmi n).uCtl (s.ctl || hasV s.ps 4)).got = false := by assumption); (have hf : (oneI (hasV s.p 4) == 0) = false := by assumption); exact H.cong (congrArg (fun S => [(R2, #[.int .u8 (oneI (hasV s.p 4)), .bool (hasV s.ps 4)]), (R1, #[.bool true, .bool n, .bool r]), (R, wkC S)]) (pend_3 hh hf))))
  case rest =>
  clear H
  have H := hcut
  clear hcut
  cases r
  · go_wp2_with (first | go_skip | (refine gate_load _ _ rfl ?_; first | (refine wpList_mload1 rfl _ _ rfl _ _ rfl 1 H _ (.bool _) rfl rfl (by decide +kernel) ?_)) | fail)
    refine fall rfl rfl ?_
    refine ⟨rfl, ?_⟩
    have h9 := H.only (i := 2) rfl
    rw [hear_f] at h9
    exact h9
  · go_wp2_with (first | go_skip | (refine gate_load _ _ rfl ?_; first | (refine wpList_mload1 rfl _ _ rfl _ _ rfl 1 H _ (.bool _) rfl rfl (by decide +kernel) ?_)) | (refine gate_store _ _ _ rfl ?_; (first | (refine wpList_mstore rfl _ _ _ rfl rfl _ _ rfl 2 H _ _ rfl (.bool _) rfl (by kernel_rfl) (of_decide_eq_true (by kernel_rfl)) (by kernel_rfl) (st_B rfl) ?_) | (refine wpList_mstore rfl _ _ _ rfl rfl _ _ rfl 2 H _ _ rfl (.int _ _) rfl (by kernel_rfl) (of_decide_eq_true (by kernel_rfl)) (by kernel_rfl) (st_I rfl) ?_)); clear H; intro w1 H; simp only [List.set_cons_zero, List.set_cons_succ] at H) | fail)
    refine fall rfl rfl ?_
    refine ⟨rfl, ?_⟩
    have h9 := H.only (i := 2) rfl
    rw [hear_t] at h9
    exact h9
end Go.Proofs.YtbonamhinnhlnaaGreatDoor
