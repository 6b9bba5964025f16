/-
  The walk of AluFlags. Over this seat's translation; bytes are from 0 to 255. (Written by gen_alu.py.)
-/
import Derived.Test.YtckfjiacnjjopaaAaw
import Derived.Test.YtckfjiacnjjopaaAdc
namespace Go.Proofs.Ytckfjiacnjjopaa
open Go.RowKit
set_option linter.unusedSimpArgs false
set_option linter.unusedVariables false
set_option maxRecDepth 20000

set_option maxHeartbeats 8000000 in
theorem aflags_walk (q : Ak) (ok : AkOk q) (w : World) : Calls Try.prog 3 #[.agg (akC q)] w fun e w' => e = .returned (.bool true) ∧ Below w.heap.size w w' := by
  have Q1 := Lib.hid (fun wr => acheck_ct q.p q.s wr ok.p0 ok.p1 ok.s0 ok.s1)
  have Q2 := Lib.hid (fun wr => qcheck_ct q.p q.s wr ok.p0 ok.p1 ok.s0 ok.s1)
  have Q3 := Lib.hid (fun wr => aget_ct q.p q.s q.b wr ok.p0 ok.p1 ok.s0 ok.s1 ok.b0 ok.b1)
  have Q4 := Lib.hid (fun wr => qget_ct q.p q.s q.b wr ok.p0 ok.p1 ok.s0 ok.s1 ok.b0 ok.b1)
  have Q5 := Lib.hid (fun wr => aset_ct q.p q.s q.b q.a (q.a != 0) q.x rfl wr ok.p0 ok.p1 ok.s0 ok.s1 ok.b0 ok.b1)
  have Q6 := Lib.hid (fun wr => qset_ct q.p q.s q.b q.a (q.a != 0) q.x rfl wr ok.p0 ok.p1 ok.s0 ok.s1 ok.b0 ok.b1)
  have Q7 := Lib.hid (fun wr => anz_ct q.p q.s q.a q.x wr ok.p0 ok.p1 ok.s0 ok.s1 ok.a0 ok.a1)
  have Q8 := Lib.hid (fun wr => qnz_ct q.p q.s q.a q.x wr ok.p0 ok.p1 ok.s0 ok.s1 ok.a0 ok.a1)
  have Q9 := Lib.hid (fun wr => apush_ct q.p q.s q.k wr ok.p0 ok.p1 ok.s0 ok.s1)
  have Q10 := Lib.hid (fun wr => qpush_ct q.p q.s q.k wr ok.p0 ok.p1 ok.s0 ok.s1)
  have Q11 := Lib.hid (fun wr => apull_ct q.a q.x wr ok.a0 ok.a1)
  have Q12 := Lib.hid (fun wr => qpull_ct q.a q.x wr ok.a0 ok.a1)
  have QA := Lib.hid (fun wr => aawake_ct wr)
  have HZF := Lib.hid alloc_fl
  have HZB := Lib.hid alloc_by
  have H := Mem.start w
  clear ok
  go_enter Try.func3, Try.ntmps3
  go_wp2_with (first
    | (refine wpList_mboxA rfl _ _ rfl H _ rfl ?_; clear H; intro _ w1 _ H) | fail)
  (try simp only [Act.put, List.setIfInBounds_toArray, List.set_cons_succ, List.set_cons_zero])
  dsimp only [List.append]
  (refine wp_region_quiet_below (by kernel_rfl) (by kernel_rfl) ?_); (repeat (first | (go_big_quiet_want; refine gate_qload _ _ rfl ?_; refine quiet_mload _ _ rfl _ _ rfl 0 H _ (#[.int .u8 q.p, .int .u8 q.s]) rfl (by decide +kernel) (by kernel_rfl) (ak_f q) ?_; simp only [Act.put, List.setIfInBounds_toArray, List.set_cons_succ, List.set_cons_zero]; go_big_quiet_on) | (go_big_quiet_want; refine gate_qload _ _ rfl ?_; refine quiet_mload _ _ rfl _ _ rfl 0 H _ (#[.int .u8 q.a, .bool q.x]) rfl (by decide +kernel) (by kernel_rfl) (ak_a q) ?_; simp only [Act.put, List.setIfInBounds_toArray, List.set_cons_succ, List.set_cons_zero]; go_big_quiet_on) | (go_big_quiet_want; refine gate_qload _ _ rfl ?_; refine quiet_mload _ _ rfl _ _ rfl 0 H _ (#[.int .u8 q.m, .bool q.y]) rfl (by decide +kernel) (by kernel_rfl) (ak_m q) ?_; simp only [Act.put, List.setIfInBounds_toArray, List.set_cons_succ, List.set_cons_zero]; go_big_quiet_on) | (go_big_quiet_want; refine gate_qload _ _ rfl ?_; (first | (refine quiet_mloadA _ _ rfl _ rfl 0 H _ rfl (by decide +kernel) (by kernel_rfl) ?_) | (refine quiet_mload1 _ _ rfl _ _ rfl 0 H _ (.int _ _) rfl rfl (by decide +kernel) ?_) | (refine quiet_mload1 _ _ rfl _ _ rfl 0 H _ (.bool _) rfl rfl (by decide +kernel) ?_) | (refine quiet_mload1 _ _ rfl _ _ rfl 0 H _ (.pointer _) rfl rfl (by decide +kernel) ?_) | (refine quiet_mload1 _ _ rfl _ _ rfl 0 H _ (.string _) rfl rfl (by decide +kernel) ?_) | (refine quiet_mload1 _ _ rfl _ _ rfl 0 H _ (.slice _ _ _) rfl rfl (by decide +kernel) ?_)); simp only [Act.put, List.setIfInBounds_toArray, List.set_cons_succ, List.set_cons_zero]; go_big_quiet_on) | go_big_quiet_step ((first | (go_at_call 9; (with_reducible exact Calls.regrown_of (Q1.out _)))| (go_at_call 10; (with_reducible exact Calls.regrown_of (Q2.out _)))| (go_at_call 11; (with_reducible exact Calls.regrown_of (Q3.out _)))| (go_at_call 12; (with_reducible exact Calls.regrown_of (Q4.out _)))| (go_at_call 13; (with_reducible exact Calls.regrown_of (Q5.out _)))| (go_at_call 14; (with_reducible exact Calls.regrown_of (Q6.out _)))| (go_at_call 15; (with_reducible exact Calls.regrown_of (Q7.out _)))| (go_at_call 16; (with_reducible exact Calls.regrown_of (Q8.out _)))| (go_at_call 17; (with_reducible exact Calls.regrown_of (Q9.out _)))| (go_at_call 18; (with_reducible exact Calls.regrown_of (Q10.out _)))| (go_at_call 19; (with_reducible exact Calls.regrown_of (Q11.out _)))| (go_at_call 20; (with_reducible exact Calls.regrown_of (Q12.out _)))| (go_at_call 21; (with_reducible exact Calls.regrown_of (QA.out _))))))); (refine wpQuiet_nil ?_); intro _ hw'; obtain ⟨⟨dq, osq⟩, hw''⟩ := hw'; (subst hw''); have hq := below_regrown w1 dq osq; replace H := H.next hq; generalize Go.Sort.grow (redrawn w1 dq) osq = wq at *
  go_wp2_with fail
  go_ret
  exact ⟨rfl, H.toBelow⟩
end Go.Proofs.Ytckfjiacnjjopaa
