/-
  The walk of PixelTells. Over this seat's translation; no condition. (Written by gen_px.py.)
-/
import Derived.Test.YtkmmmnoipgdedaaPxw
import Derived.Test.YtkmmmnoipgdedaaPxo
namespace Go.Proofs.Ytkmmmnoipgdedaa
open Go.RowKit Go.Sort
set_option linter.unusedSimpArgs false
set_option linter.unusedVariables false
set_option maxRecDepth 20000

attribute [local irreducible] wpList
set_option maxHeartbeats 8000000 in
theorem pixelTells_in (q : Pq) (sv sv2 : Value) (V : Int) (S : Bool) (E : Int) (w : World) (hw : ∀ wr : World, Below w.heap.size w wr → Calls Try.prog 10 #[sv2, .int .u8 (w8 q.i), .int .u8 (w8 q.m), .bool q.l] wr fun e w' => e = .returned (.tuple #[.agg #[.int .u8 V, .bool S], .int .i64 E]) ∧ Below wr.heap.size wr w') (hw2 : ∀ wr : World, Below w.heap.size w wr → Calls Try.prog 11 #[sv2, .int .u8 (w8 q.i), .int .u8 (w8 q.m), .bool q.l] wr fun e w' => e = .returned (.tuple #[.agg #[.int .u8 V, .bool S], .int .i64 E]) ∧ Below wr.heap.size wr w')
    (hs : ∃ a n cap, sv = .slice a n cap ∧ ((n ≤ 33 ∧ sv2 = sv) ∨ (33 < n ∧ 33 ≤ cap ∧ cap ≤ maxLen ∧ sv2 = .slice a 33 cap))) : Calls Try.prog 3 #[.agg (pqC q), sv] w fun e w' => e = .returned (.bool true) ∧ Below w.heap.size w w' := by
  obtain ⟨a, n, cap, rfl, hs⟩ := hs
  have QW := Lib.hid (fun wr => awake16_ct wr)
  have HZ := Lib.hid alloc_pb
  have QS := Lib.hid (fun wr => pshown_ct q.m q.x wr)
  have RS := Lib.hid (fun wr => rshown16_ct q.m q.x wr)
  have QO := Lib.hid (fun wr => pon_ct q.m wr)
  have RO := Lib.hid (fun wr => ron16_ct q.m wr)
  have QV := Lib.hid (fun wr => pover_ct q.g q.s q.b wr)
  have RV := Lib.hid (fun wr => rover16_ct q.g q.s q.b wr)
  have QH := Lib.hid (fun wr => phit_ct q.g q.s q.x wr)
  have RH := Lib.hid (fun wr => rhit16_ct q.g q.s q.x wr)
  have QC := Lib.hid hw
  have RC := Lib.hid hw2
  clear hw hw2
  generalize gndP q.m q.x = z1 at *
  generalize sprP q.m q.x = z2 at *
  generalize anyP q.m = z3 at *
  generalize w8 (placeP q.g q.s q.b) = z4 at *
  generalize hitP q.g q.s q.x = z5 at *
  have H := Mem.start w
  have M1 : True := trivial
  have M2 : True := trivial
  have M3 : True := trivial
  rcases hs with ⟨hn, rfl⟩ | ⟨hn, hc, hm, rfl⟩
  · have hn2 : (n : Int) ≤ 33 := by omega
    go_enter Try.func3, Try.ntmps3
    go_wp2_with (first | (clear M1; refine wpList_mboxA rfl _ _ rfl H (pqC q) rfl ?_; clear H; intro Rq w1 _ H) | (refine gate_load _ _ rfl ?_; refine wpList_mload1 rfl 5 _ rfl _ _ rfl 0 H (pqC _) (.int .u8 _) rfl rfl (by decide +kernel) ?_) | (refine gate_load _ _ rfl ?_; refine wpList_mload1 rfl 3 _ rfl _ _ rfl 0 H (pqC _) (.int .i64 _) rfl rfl (by decide +kernel) ?_) | (refine gate_load _ _ rfl ?_; refine wpList_mload1 rfl 4 _ rfl _ _ rfl 0 H (pqC _) (.bool _) rfl rfl (by decide +kernel) ?_) | (refine gate_load _ _ rfl ?_; refine wpList_mload1 rfl 5 _ rfl _ _ rfl 1 H (pqC _) (.int .u8 _) rfl rfl (by decide +kernel) ?_) | (refine gate_load _ _ rfl ?_; refine wpList_mload1 rfl 3 _ rfl _ _ rfl 1 H (pqC _) (.int .i64 _) rfl rfl (by decide +kernel) ?_) | (refine gate_load _ _ rfl ?_; refine wpList_mload1 rfl 4 _ rfl _ _ rfl 1 H (pqC _) (.bool _) rfl rfl (by decide +kernel) ?_) | (refine gate_load _ _ rfl ?_; refine wpList_mload1 rfl 5 _ rfl _ _ rfl 2 H (pqC _) (.int .u8 _) rfl rfl (by decide +kernel) ?_) | (refine gate_load _ _ rfl ?_; refine wpList_mload1 rfl 3 _ rfl _ _ rfl 2 H (pqC _) (.int .i64 _) rfl rfl (by decide +kernel) ?_) | (refine gate_load _ _ rfl ?_; refine wpList_mload1 rfl 4 _ rfl _ _ rfl 2 H (pqC _) (.bool _) rfl rfl (by decide +kernel) ?_) | (go_at_call 8; (with_reducible refine (QS.out _).mono ?_); rintro e w2 ⟨rfl, hB⟩; replace H := H.next hB; clear hB) | (go_at_call 9; (with_reducible refine (RS.out _).mono ?_); rintro e w2 ⟨rfl, hB⟩; replace H := H.next hB; clear hB) | (go_at_call 10; (with_reducible refine (QC.out _ H.toBelow).mono ?_); rintro e w2 ⟨rfl, hB⟩; replace H := H.next hB; clear hB) | (go_at_call 11; (with_reducible refine (RC.out _ H.toBelow).mono ?_); rintro e w2 ⟨rfl, hB⟩; replace H := H.next hB; clear hB) | (clear M2; refine wpList_mnew rfl _ rfl H _ HZ.out ?_; clear H; intro Rv w1 _ H) | (clear M3; refine wpList_mnew rfl _ rfl H _ HZ.out ?_; clear H; intro Ru w1 _ H) | (refine gate_store _ _ _ rfl ?_; refine wpList_mstoreA rfl 28 _ _ rfl rfl _ rfl 0 H #[.int .u8 _, .bool _] _ rfl rfl (by kernel_rfl) (by kernel_rfl) (by kernel_rfl) ?_; clear H; intro w1 H; simp only [List.set_cons_zero, List.set_cons_succ] at H) | fail)
    (try simp only [Act.put, List.setIfInBounds_toArray, List.set_cons_succ, List.set_cons_zero])
    (refine wp_region_quiet_below (by kernel_rfl) (by kernel_rfl) ?_); (dsimp only [List.append]); (repeat (first | (go_big_quiet_want; refine gate_qload _ _ rfl ?_; refine quiet_mload1 5 _ rfl _ _ rfl 2 H (pqC _) (.int .u8 _) rfl rfl (by decide +kernel) ?_; simp only [Act.put, List.setIfInBounds_toArray, List.set_cons_succ, List.set_cons_zero]; go_big_quiet_on) | (go_big_quiet_want; refine gate_qload _ _ rfl ?_; refine quiet_mload1 3 _ rfl _ _ rfl 2 H (pqC _) (.int .i64 _) rfl rfl (by decide +kernel) ?_; simp only [Act.put, List.setIfInBounds_toArray, List.set_cons_succ, List.set_cons_zero]; go_big_quiet_on) | (go_big_quiet_want; refine gate_qload _ _ rfl ?_; refine quiet_mload1 4 _ rfl _ _ rfl 2 H (pqC _) (.bool _) rfl rfl (by decide +kernel) ?_; simp only [Act.put, List.setIfInBounds_toArray, List.set_cons_succ, List.set_cons_zero]; go_big_quiet_on) | (go_big_quiet_want; refine gate_qload _ _ rfl ?_; refine quiet_mloadA 28 _ rfl _ rfl 0 H #[.int .u8 _, .bool _] rfl (by decide +kernel) (by kernel_rfl) ?_; simp only [Act.put, List.setIfInBounds_toArray, List.set_cons_succ, List.set_cons_zero]; go_big_quiet_on) | (go_big_quiet_want; refine gate_qload _ _ rfl ?_; refine quiet_mloadA 28 _ rfl _ rfl 1 H #[.int .u8 _, .bool _] rfl (by decide +kernel) (by kernel_rfl) ?_; simp only [Act.put, List.setIfInBounds_toArray, List.set_cons_succ, List.set_cons_zero]; go_big_quiet_on) | go_big_quiet_step ((first | (go_at_call 12; (with_reducible exact Calls.regrown_of (QO.out _))) | (go_at_call 13; (with_reducible exact Calls.regrown_of (RO.out _))) | (go_at_call 14; (with_reducible exact Calls.regrown_of (QV.out _))) | (go_at_call 15; (with_reducible exact Calls.regrown_of (RV.out _))) | (go_at_call 16; (with_reducible exact Calls.regrown_of (QH.out _))) | (go_at_call 17; (with_reducible exact Calls.regrown_of (RH.out _))) | (go_at_call 18; (with_reducible exact Calls.regrown_of (QW.out _))) | fail)))); (refine wpQuiet_nil ?_); intro _ hw'; obtain ⟨⟨dq, osq⟩, hw''⟩ := hw'; (subst hw''); replace H := H.next (below_regrown _ dq osq); generalize Go.Sort.grow (redrawn _ dq) osq = wq at *
    go_wp2
    go_ret
    exact ⟨rfl, H.toBelow⟩
  · unfold maxLen at hm
    have hn2 : 33 < (n : Int) := by omega
    go_enter Try.func3, Try.ntmps3
    go_wp2_with (first | (clear M1; refine wpList_mboxA rfl _ _ rfl H (pqC q) rfl ?_; clear H; intro Rq w1 _ H) | (refine gate_load _ _ rfl ?_; refine wpList_mload1 rfl 5 _ rfl _ _ rfl 0 H (pqC _) (.int .u8 _) rfl rfl (by decide +kernel) ?_) | (refine gate_load _ _ rfl ?_; refine wpList_mload1 rfl 3 _ rfl _ _ rfl 0 H (pqC _) (.int .i64 _) rfl rfl (by decide +kernel) ?_) | (refine gate_load _ _ rfl ?_; refine wpList_mload1 rfl 4 _ rfl _ _ rfl 0 H (pqC _) (.bool _) rfl rfl (by decide +kernel) ?_) | (refine gate_load _ _ rfl ?_; refine wpList_mload1 rfl 5 _ rfl _ _ rfl 1 H (pqC _) (.int .u8 _) rfl rfl (by decide +kernel) ?_) | (refine gate_load _ _ rfl ?_; refine wpList_mload1 rfl 3 _ rfl _ _ rfl 1 H (pqC _) (.int .i64 _) rfl rfl (by decide +kernel) ?_) | (refine gate_load _ _ rfl ?_; refine wpList_mload1 rfl 4 _ rfl _ _ rfl 1 H (pqC _) (.bool _) rfl rfl (by decide +kernel) ?_) | (refine gate_load _ _ rfl ?_; refine wpList_mload1 rfl 5 _ rfl _ _ rfl 2 H (pqC _) (.int .u8 _) rfl rfl (by decide +kernel) ?_) | (refine gate_load _ _ rfl ?_; refine wpList_mload1 rfl 3 _ rfl _ _ rfl 2 H (pqC _) (.int .i64 _) rfl rfl (by decide +kernel) ?_) | (refine gate_load _ _ rfl ?_; refine wpList_mload1 rfl 4 _ rfl _ _ rfl 2 H (pqC _) (.bool _) rfl rfl (by decide +kernel) ?_) | (go_at_call 8; (with_reducible refine (QS.out _).mono ?_); rintro e w2 ⟨rfl, hB⟩; replace H := H.next hB; clear hB) | (go_at_call 9; (with_reducible refine (RS.out _).mono ?_); rintro e w2 ⟨rfl, hB⟩; replace H := H.next hB; clear hB) | (go_at_call 10; (with_reducible refine (QC.out _ H.toBelow).mono ?_); rintro e w2 ⟨rfl, hB⟩; replace H := H.next hB; clear hB) | (go_at_call 11; (with_reducible refine (RC.out _ H.toBelow).mono ?_); rintro e w2 ⟨rfl, hB⟩; replace H := H.next hB; clear hB) | (clear M2; refine wpList_mnew rfl _ rfl H _ HZ.out ?_; clear H; intro Rv w1 _ H) | (clear M3; refine wpList_mnew rfl _ rfl H _ HZ.out ?_; clear H; intro Ru w1 _ H) | (refine gate_store _ _ _ rfl ?_; refine wpList_mstoreA rfl 28 _ _ rfl rfl _ rfl 0 H #[.int .u8 _, .bool _] _ rfl rfl (by kernel_rfl) (by kernel_rfl) (by kernel_rfl) ?_; clear H; intro w1 H; simp only [List.set_cons_zero, List.set_cons_succ] at H) | fail)
    (try simp only [Act.put, List.setIfInBounds_toArray, List.set_cons_succ, List.set_cons_zero])
    (refine wp_region_quiet_below (by kernel_rfl) (by kernel_rfl) ?_); (dsimp only [List.append]); (repeat (first | (go_big_quiet_want; refine gate_qload _ _ rfl ?_; refine quiet_mload1 5 _ rfl _ _ rfl 2 H (pqC _) (.int .u8 _) rfl rfl (by decide +kernel) ?_; simp only [Act.put, List.setIfInBounds_toArray, List.set_cons_succ, List.set_cons_zero]; go_big_quiet_on) | (go_big_quiet_want; refine gate_qload _ _ rfl ?_; refine quiet_mload1 3 _ rfl _ _ rfl 2 H (pqC _) (.int .i64 _) rfl rfl (by decide +kernel) ?_; simp only [Act.put, List.setIfInBounds_toArray, List.set_cons_succ, List.set_cons_zero]; go_big_quiet_on) | (go_big_quiet_want; refine gate_qload _ _ rfl ?_; refine quiet_mload1 4 _ rfl _ _ rfl 2 H (pqC _) (.bool _) rfl rfl (by decide +kernel) ?_; simp only [Act.put, List.setIfInBounds_toArray, List.set_cons_succ, List.set_cons_zero]; go_big_quiet_on) | (go_big_quiet_want; refine gate_qload _ _ rfl ?_; refine quiet_mloadA 28 _ rfl _ rfl 0 H #[.int .u8 _, .bool _] rfl (by decide +kernel) (by kernel_rfl) ?_; simp only [Act.put, List.setIfInBounds_toArray, List.set_cons_succ, List.set_cons_zero]; go_big_quiet_on) | (go_big_quiet_want; refine gate_qload _ _ rfl ?_; refine quiet_mloadA 28 _ rfl _ rfl 1 H #[.int .u8 _, .bool _] rfl (by decide +kernel) (by kernel_rfl) ?_; simp only [Act.put, List.setIfInBounds_toArray, List.set_cons_succ, List.set_cons_zero]; go_big_quiet_on) | go_big_quiet_step ((first | (go_at_call 12; (with_reducible exact Calls.regrown_of (QO.out _))) | (go_at_call 13; (with_reducible exact Calls.regrown_of (RO.out _))) | (go_at_call 14; (with_reducible exact Calls.regrown_of (QV.out _))) | (go_at_call 15; (with_reducible exact Calls.regrown_of (RV.out _))) | (go_at_call 16; (with_reducible exact Calls.regrown_of (QH.out _))) | (go_at_call 17; (with_reducible exact Calls.regrown_of (RH.out _))) | (go_at_call 18; (with_reducible exact Calls.regrown_of (QW.out _))) | fail)))); (refine wpQuiet_nil ?_); intro _ hw'; obtain ⟨⟨dq, osq⟩, hw''⟩ := hw'; (subst hw''); replace H := H.next (below_regrown _ dq osq); generalize Go.Sort.grow (redrawn _ dq) osq = wq at *
    go_wp2
    go_ret
    exact ⟨rfl, H.toBelow⟩
end Go.Proofs.Ytkmmmnoipgdedaa
