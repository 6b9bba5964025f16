/-
  The walk of TileTells. Over this seat's translation; no condition. (Written by gen_ti.py.)
-/
import Derived.Test.YtbgclhhhfldphaaTis
import Derived.Test.YtbgclhhhfldphaaTiq
namespace Go.Proofs.Ytbgclhhhfldphaa
open Go.RowKit Go.Sort
set_option linter.unusedSimpArgs false
set_option linter.unusedVariables false
set_option maxRecDepth 20000

attribute [local irreducible] wpList
set_option maxHeartbeats 8000000 in
theorem tileTells_walk (q : Ta) (p : Ti) (w : World) : Calls Try.prog 3 #[.agg (taC q), .agg (tiC p)] w fun e w' => e = .returned (.bool true) ∧ Below w.heap.size w w' := by
  obtain ⟨t, lo, ls, hi, hs, tint, s, x⟩ := q
  have K1 := fun wr => tdot_ct t x wr
  have K2 := fun wr => rdot14_ct t x wr
  have K3 := fun wr => tload_ct t lo hi tint s ls hs wr
  have K4 := fun wr => rload14_ct t lo hi tint s ls hs wr
  have K5 := fun wr => tshift_ct t wr
  have K6 := fun wr => rshift14_ct t wr
  have K7 := fun wr => terase_ct t wr
  have K8 := fun wr => talike_ct t p wr
  have K9 := fun wr => ralike14_ct t p wr
  generalize dotT t (w8 x % 8).toNat = d at *
  generalize secT t (w8 x % 8).toNat = z at *
  generalize loadT t lo hi tint (s || ls || hs) = u at *
  generalize shiftT t = y at *
  generalize alikeT t p = r at *
  obtain ⟨e, he⟩ : ∃ e, eraseT t = e := ⟨_, rfl⟩
  rw [he] at K7
  have HE := Lib.hid (show (⟨t.lo, t.hi, t.one, t.two, 0#16⟩ : Ti) = e from he)
  clear he
  have Q1 := Lib.hid K1
  clear K1
  have Q2 := Lib.hid K2
  clear K2
  have Q3 := Lib.hid K3
  clear K3
  have Q4 := Lib.hid K4
  clear K4
  have Q5 := Lib.hid K5
  clear K5
  have Q6 := Lib.hid K6
  clear K6
  have Q7 := Lib.hid K7
  clear K7
  have Q8 := Lib.hid K8
  clear K8
  have Q9 := Lib.hid K9
  clear K9
  have QW := Lib.hid (fun wr => awake14_ct wr)
  have HZ := Lib.hid alloc_ti
  have H := Mem.start w
  have M1 : True := trivial
  have M2 : True := trivial
  have M3 : True := trivial
  go_enter Try.func3, Try.ntmps3
  go_wp2_with (first | (clear M1; refine wpList_mboxA rfl _ _ rfl H _ rfl ?_; clear H; intro Rq w1 _ H) | (clear M2; refine wpList_mboxA rfl _ _ rfl H _ rfl ?_; clear H; intro Ro w1 _ H) | (refine gate_load _ _ rfl ?_; refine wpList_mload rfl 24 _ rfl _ _ rfl 1 H _ (tiC _) rfl (by decide +kernel) (by kernel_rfl) (ta_tile _) ?_) | (refine gate_load _ _ rfl ?_; refine wpList_mload1 rfl 5 _ rfl _ _ rfl 1 H _ (.int .u8 _) rfl rfl (by decide +kernel) ?_) | (go_at_call 8; (first | (with_reducible refine (Q1.out _).mono ?_)); rintro e w2 ⟨rfl, hB⟩; replace H := H.next hB; clear hB) | (go_at_call 9; (first | (with_reducible refine (Q2.out _).mono ?_)); rintro e w2 ⟨rfl, hB⟩; replace H := H.next hB; clear hB) | (clear M3; refine wpList_mnew rfl _ rfl H _ HZ.out ?_; clear H; intro Re w1 _ H) | (refine gate_store _ _ _ rfl ?_; refine wpList_mstoreA rfl 24 _ _ rfl rfl _ rfl 0 H (tiC _) _ rfl rfl (by kernel_rfl) (by kernel_rfl) (by kernel_rfl) ?_; clear H; intro w1 H; simp only [List.set_cons_zero, List.set_cons_succ] at H) | (refine gate_store _ _ _ rfl ?_; refine wpList_mstore rfl 22 _ _ rfl rfl _ _ rfl 0 H _ _ rfl (.int .u16 _) rfl (by kernel_rfl) (of_decide_eq_true (by kernel_rfl)) (by kernel_rfl) (ti_I (show (0 : Int) = w16 0#16 by decide) rfl) ?_; clear H; intro w1 H; simp only [List.set_cons_zero, List.set_cons_succ] at H) | fail)
  have hee := HE.out
  simp only [hee] at H
  clear hee HE
  (try simp only [Act.put, List.setIfInBounds_toArray, List.set_cons_succ, List.set_cons_zero])
  (refine wp_region_quiet_below (by kernel_rfl) (by kernel_rfl) ?_); (repeat (first | (go_big_quiet_want; refine gate_qload _ _ rfl ?_; refine quiet_mloadA 24 _ rfl _ rfl 0 H (tiC _) rfl (by decide +kernel) (by kernel_rfl) ?_; simp only [Act.put, List.setIfInBounds_toArray, List.set_cons_succ, List.set_cons_zero]; go_big_quiet_on) | (go_big_quiet_want; refine gate_qload _ _ rfl ?_; refine quiet_mloadA 24 _ rfl _ rfl 1 H (tiC _) rfl (by decide +kernel) (by kernel_rfl) ?_; simp only [Act.put, List.setIfInBounds_toArray, List.set_cons_succ, List.set_cons_zero]; go_big_quiet_on) | (go_big_quiet_want; refine gate_qload _ _ rfl ?_; refine quiet_mload 24 _ rfl _ _ rfl 2 H _ (tiC _) rfl (by decide +kernel) (by kernel_rfl) (ta_tile _) ?_; simp only [Act.put, List.setIfInBounds_toArray, List.set_cons_succ, List.set_cons_zero]; go_big_quiet_on) | (go_big_quiet_want; refine gate_qload _ _ rfl ?_; refine quiet_mload 26 _ rfl _ _ rfl 2 H _ #[.int .u8 _, .bool _] rfl (by decide +kernel) (by kernel_rfl) (ta_lo _) ?_; simp only [Act.put, List.setIfInBounds_toArray, List.set_cons_succ, List.set_cons_zero]; go_big_quiet_on) | (go_big_quiet_want; refine gate_qload _ _ rfl ?_; refine quiet_mload 26 _ rfl _ _ rfl 2 H _ #[.int .u8 _, .bool _] rfl (by decide +kernel) (by kernel_rfl) (ta_hi _) ?_; simp only [Act.put, List.setIfInBounds_toArray, List.set_cons_succ, List.set_cons_zero]; go_big_quiet_on) | (go_big_quiet_want; refine gate_qload _ _ rfl ?_; refine quiet_mload1 5 _ rfl _ _ rfl 2 H _ (.int .u8 _) rfl rfl (by decide +kernel) ?_; simp only [Act.put, List.setIfInBounds_toArray, List.set_cons_succ, List.set_cons_zero]; go_big_quiet_on) | (go_big_quiet_want; refine gate_qload _ _ rfl ?_; refine quiet_mload1 4 _ rfl _ _ rfl 2 H _ (.bool _) rfl rfl (by decide +kernel) ?_; simp only [Act.put, List.setIfInBounds_toArray, List.set_cons_succ, List.set_cons_zero]; go_big_quiet_on) | (go_big_quiet_want; refine gate_qtb .eql 24 _ _ _ rfl ?_; refine quiet_tbin .eql 24 _ _ _ rfl (.agg (tiC _)) (.agg (tiC _)) _ rfl rfl (fun w => ti_eqlG _ _ _ w) ?_; simp only [Act.put, List.setIfInBounds_toArray, List.set_cons_succ, List.set_cons_zero]; go_big_quiet_on) | go_big_quiet_step ((first | (go_at_call 10; (first | (with_reducible exact Calls.regrown_of (Q3.out _)))) | (go_at_call 11; (first | (with_reducible exact Calls.regrown_of (Q4.out _)))) | (go_at_call 12; (first | (with_reducible exact Calls.regrown_of (Q5.out _)))) | (go_at_call 13; (first | (with_reducible exact Calls.regrown_of (Q6.out _)))) | (go_at_call 14; (first | (with_reducible exact Calls.regrown_of (Q7.out _)))) | (go_at_call 15; (first | (with_reducible exact Calls.regrown_of (Q8.out _)))) | (go_at_call 16; (first | (with_reducible exact Calls.regrown_of (Q9.out _)))) | (go_at_call 17; (with_reducible exact Calls.regrown_of (QW.out _))) | fail)))); (refine wpQuiet_nil ?_); intro _ hw'; obtain ⟨⟨dq, osq⟩, hw''⟩ := hw'; (subst hw''); replace H := H.next (below_regrown _ dq osq); generalize Go.Sort.grow (redrawn _ dq) osq = wq at *
  go_wp2
  go_ret
  exact ⟨rfl, H.toBelow⟩
end Go.Proofs.Ytbgclhhhfldphaa
