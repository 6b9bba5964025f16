/-
  Several texts in one: what is read and written by the functions on the way to the statements. Conditions stand in each theorem.
-/
import Derived.Test.YtbonamhinnhlnaaGreatDoorP20
namespace Go.Proofs.YtbonamhinnhlnaaGreatDoor
open Go.RowKit
set_option linter.unusedSimpArgs false
set_option linter.unusedVariables false
set_option maxRecDepth 20000

theorem Mem.begin2 {n : Nat} {X : List Nat} {w0 w : World} {l : List (Nat × Array Value)} {Q R : Nat} {cs ds : Array Value} {i j : Nat} (h : Mem n X w0 w l) (hi : l[i]? = some (Q, cs)) (hj : l[j]? = some (R, ds)) (hne : i ≠ j) : Mem w.heap.size [Q, R] w w [(Q, cs), (R, ds)] := by
  have hQR : Q ≠ R := fun e => by
    have h1 : (l.map (·.1))[i]? = some Q := by rw [List.getElem?_map, hi]; rfl
    have h2 : (l.map (·.1))[j]? = some Q := by rw [List.getElem?_map, hj, e]; rfl
    have hl : i < (l.map (·.1)).length := (List.getElem?_eq_some_iff.1 h1).1
    exact hne ((List.getElem?_inj hl h.nodup).1 (h1.trans h2.symm))
  refine ⟨rfl, rfl, rfl, Nat.le_refl _, Nat.le_refl _, fun _ _ _ => rfl, fun x hx => ?_, fun x hx => ?_, by simp [hQR]⟩
  · rcases List.mem_cons.1 hx with rfl | hx
    · exact h.row _ (List.mem_of_getElem? hi)
    · obtain rfl := List.mem_singleton.1 hx
      exact h.row _ (List.mem_of_getElem? hj)
  · rcases List.mem_cons.1 hx with rfl | hx
    · exact .inr (by simp)
    · obtain rfl := List.mem_singleton.1 hx
      exact .inr (by simp)
theorem Mem.call2 {n : Nat} {X : List Nat} {w0 w w' : World} {a : Nat × Array Value} {Q R : Nat} {cs ds cs' ds' : Array Value} (h : Mem n X w0 w [a, (Q, cs), (R, ds)]) (hc : Mem w.heap.size [Q, R] w w' [(Q, cs'), (R, ds')]) : Mem n X w0 w' [a, (Q, cs'), (R, ds')] := by
  have hn := h.nodup
  simp only [List.map_cons, List.map_nil, List.nodup_cons, List.mem_cons, List.not_mem_nil, or_false, not_or, List.nodup_nil, and_true, not_false_eq_true] at hn
  have mQ := h.mine (Q, cs) (by simp)
  have mR := h.mine (R, ds) (by simp)
  have hs := h.size
  have hb := h.base
  refine ⟨hc.os.trans h.os, hc.tape.trans h.tape, hc.output.trans h.output, Nat.le_trans hs hc.size, hb, fun k hk hX => ?_, fun x hx => ?_, fun x hx => ?_, by simpa using h.nodup⟩
  · have k1 : k ∉ [Q, R] := by
      intro hm
      simp only [List.mem_cons, List.not_mem_nil, or_false] at hm
      rcases hm with rfl | rfl
      · rcases mQ with m | m
        · exact absurd hk (by simp at m; omega)
        · exact hX m
      · rcases mR with m | m
        · exact absurd hk (by simp at m; omega)
        · exact hX m
    exact (hc.block k (by omega) k1).trans (h.block k hk hX)
  · simp only [List.mem_cons, List.not_mem_nil, or_false] at hx
    rcases hx with rfl | rfl | rfl
    · obtain ⟨T, e⟩ := h.row x (by simp)
      exact ⟨T, (hc.block _ (h.lt (x := x) (by simp)) (by simp [hn.1.1, hn.1.2])).trans e⟩
    · exact hc.row _ (by simp)
    · exact hc.row _ (by simp)
  · simp only [List.mem_cons, List.not_mem_nil, or_false] at hx
    rcases hx with rfl | rfl | rfl
    · exact h.mine _ (by simp)
    · exact mQ
    · exact mR
set_option maxHeartbeats 2000000 in
theorem k_asl (s : Wk) (v : Int) (b : Bool) (F : Fiw s) (g0 : 0 ≤ v) (g1 : v < 256) : CR 184 s v b (aslM s v b) := by
  intro R T w hR
  have FF := F
  obtain ⟨⟨a0, a1, x0, x1, y0, y1, s0, s1, p0, p1, q0, q1, cp, cq, pc0, pc1, op0, op1, ad0, ad1, d0, d1⟩, v0, v1⟩ := F
  have F := FF
  clear cp cq FF
  have HZB := Lib.hid alloc_by
  have HZU := Lib.hid alloc_bus
  have H := Mem.begin hR
  clear hR
  have MR1 : True := trivial
  have MR2 : True := trivial
  go_enter Tryz.func184, Tryz.ntmps184
  go_wp2_with (first | (refine wpList_mboxA rfl _ _ rfl H _ rfl ?_; clear H; (first | (clear MR1; intro R1 w1 _ H) | (clear MR2; intro R2 w1 _ H))) | go_skip | (refine wpList_mnew rfl _ rfl H _ HZB.out ?_; clear H; (first | (clear MR1; intro R1 w1 _ H) | (clear MR2; intro R2 w1 _ H))) | fail)
  (try simp only [Act.put, List.setIfInBounds_toArray, List.set_cons_succ, List.set_cons_zero])
  (refine wp_region_tails_below 10 (by kernel_rfl) (by kernel_rfl) ?_); (simp only [List.take_succ_cons, List.take_zero, List.drop_succ_cons, List.drop_zero]); (repeat (first | (go_big_quiet_want; refine gate_qload _ _ rfl ?_; (first | (refine quiet_mloadA 23 _ rfl _ rfl 1 H #[.int .u8 _, .bool _] rfl (by decide +kernel) (by kernel_rfl) ?_) | (refine quiet_mload 25 _ rfl _ _ rfl 2 H _ #[.int .u8 _, .int .u8 _] rfl (by decide +kernel) (by kernel_rfl) (part2 rfl rfl) ?_)); simp only [Act.put, List.setIfInBounds_toArray, List.set_cons_succ, List.set_cons_zero]; go_big_quiet_on) | go_big_quiet_step ((first | (go_at_call 223; (with_reducible exact Calls.regrown_of (aasl_ct _ _ _ _ _ (by first | assumption | decide | omega) (by first | assumption | decide | omega) (by first | assumption | decide | omega) (by first | assumption | decide | omega) (by first | assumption | decide | omega) (by first | assumption | decide | omega)))) | fail)))); (refine wpQuiet_nil ?_); intro _ hw'; obtain ⟨⟨dq, osq⟩, hw''⟩ := hw'; (subst hw''); replace H := H.next (below_regrown _ dq osq)
  go_wp2_with (first | (go_at_call 222; obtain ⟨T0, hT⟩ := H.get (i := 2) rfl; (with_reducible refine Calls.mono (with_ct _ _ _ _ _ _ _ _ hT) ?_); rintro e w2 ⟨rfl, hm⟩; replace H := H.call (i := 2) rfl hm; clear hm hT; simp only [List.set_cons_zero, List.set_cons_succ] at H) | go_skip | (refine gate_store _ _ _ rfl ?_; (first | (refine wpList_mstoreA rfl 23 _ _ rfl rfl _ rfl 0 H #[.int .u8 _, .bool _] _ rfl rfl (by kernel_rfl) (by kernel_rfl) (by kernel_rfl) ?_)); clear H; intro w1 H; simp only [List.set_cons_zero, List.set_cons_succ] at H) | fail)
  first | refine ret_mem1 rfl _ rfl 0 H _ rfl (by kernel_rfl) (by kernel_rfl) rfl ?_ | refine ret_mem1 rfl _ rfl 1 H _ rfl (by kernel_rfl) (by kernel_rfl) rfl ?_ | refine ret_mem1 rfl _ rfl 2 H _ rfl (by kernel_rfl) (by kernel_rfl) rfl ?_
  exact ⟨rfl, H.only (i := 2) rfl⟩

set_option maxHeartbeats 2000000 in
theorem k_lsr (s : Wk) (v : Int) (b : Bool) (F : Fiw s) (g0 : 0 ≤ v) (g1 : v < 256) : CR 185 s v b (lsrM s v b) := by
  intro R T w hR
  have FF := F
  obtain ⟨⟨a0, a1, x0, x1, y0, y1, s0, s1, p0, p1, q0, q1, cp, cq, pc0, pc1, op0, op1, ad0, ad1, d0, d1⟩, v0, v1⟩ := F
  have F := FF
  clear cp cq FF
  have HZB := Lib.hid alloc_by
  have HZU := Lib.hid alloc_bus
  have H := Mem.begin hR
  clear hR
  have MR1 : True := trivial
  have MR2 : True := trivial
  go_enter Tryz.func185, Tryz.ntmps185
  go_wp2_with (first | (refine wpList_mboxA rfl _ _ rfl H _ rfl ?_; clear H; (first | (clear MR1; intro R1 w1 _ H) | (clear MR2; intro R2 w1 _ H))) | go_skip | (refine wpList_mnew rfl _ rfl H _ HZB.out ?_; clear H; (first | (clear MR1; intro R1 w1 _ H) | (clear MR2; intro R2 w1 _ H))) | fail)
  (try simp only [Act.put, List.setIfInBounds_toArray, List.set_cons_succ, List.set_cons_zero])
  (refine wp_region_tails_below 10 (by kernel_rfl) (by kernel_rfl) ?_); (simp only [List.take_succ_cons, List.take_zero, List.drop_succ_cons, List.drop_zero]); (repeat (first | (go_big_quiet_want; refine gate_qload _ _ rfl ?_; (first | (refine quiet_mloadA 23 _ rfl _ rfl 1 H #[.int .u8 _, .bool _] rfl (by decide +kernel) (by kernel_rfl) ?_) | (refine quiet_mload 25 _ rfl _ _ rfl 2 H _ #[.int .u8 _, .int .u8 _] rfl (by decide +kernel) (by kernel_rfl) (part2 rfl rfl) ?_)); simp only [Act.put, List.setIfInBounds_toArray, List.set_cons_succ, List.set_cons_zero]; go_big_quiet_on) | go_big_quiet_step ((first | (go_at_call 224; (with_reducible exact Calls.regrown_of (alsr_ct _ _ _ _ _ (by first | assumption | decide | omega) (by first | assumption | decide | omega) (by first | assumption | decide | omega) (by first | assumption | decide | omega) (by first | assumption | decide | omega) (by first | assumption | decide | omega)))) | fail)))); (refine wpQuiet_nil ?_); intro _ hw'; obtain ⟨⟨dq, osq⟩, hw''⟩ := hw'; (subst hw''); replace H := H.next (below_regrown _ dq osq)
  go_wp2_with (first | (go_at_call 222; obtain ⟨T0, hT⟩ := H.get (i := 2) rfl; (with_reducible refine Calls.mono (with_ct _ _ _ _ _ _ _ _ hT) ?_); rintro e w2 ⟨rfl, hm⟩; replace H := H.call (i := 2) rfl hm; clear hm hT; simp only [List.set_cons_zero, List.set_cons_succ] at H) | go_skip | (refine gate_store _ _ _ rfl ?_; (first | (refine wpList_mstoreA rfl 23 _ _ rfl rfl _ rfl 0 H #[.int .u8 _, .bool _] _ rfl rfl (by kernel_rfl) (by kernel_rfl) (by kernel_rfl) ?_)); clear H; intro w1 H; simp only [List.set_cons_zero, List.set_cons_succ] at H) | fail)
  first | refine ret_mem1 rfl _ rfl 0 H _ rfl (by kernel_rfl) (by kernel_rfl) rfl ?_ | refine ret_mem1 rfl _ rfl 1 H _ rfl (by kernel_rfl) (by kernel_rfl) rfl ?_ | refine ret_mem1 rfl _ rfl 2 H _ rfl (by kernel_rfl) (by kernel_rfl) rfl ?_
  exact ⟨rfl, H.only (i := 2) rfl⟩

set_option maxHeartbeats 2000000 in
theorem k_rol (s : Wk) (v : Int) (b : Bool) (F : Fiw s) (g0 : 0 ≤ v) (g1 : v < 256) : CR 186 s v b (rolM s v b) := by
  intro R T w hR
  have FF := F
  obtain ⟨⟨a0, a1, x0, x1, y0, y1, s0, s1, p0, p1, q0, q1, cp, cq, pc0, pc1, op0, op1, ad0, ad1, d0, d1⟩, v0, v1⟩ := F
  have F := FF
  clear cp cq FF
  have HZB := Lib.hid alloc_by
  have HZU := Lib.hid alloc_bus
  have H := Mem.begin hR
  clear hR
  have MR1 : True := trivial
  have MR2 : True := trivial
  go_enter Tryz.func186, Tryz.ntmps186
  go_wp2_with (first | (refine wpList_mboxA rfl _ _ rfl H _ rfl ?_; clear H; (first | (clear MR1; intro R1 w1 _ H) | (clear MR2; intro R2 w1 _ H))) | go_skip | (refine wpList_mnew rfl _ rfl H _ HZB.out ?_; clear H; (first | (clear MR1; intro R1 w1 _ H) | (clear MR2; intro R2 w1 _ H))) | fail)
  (try simp only [Act.put, List.setIfInBounds_toArray, List.set_cons_succ, List.set_cons_zero])
  (refine wp_region_tails_below 10 (by kernel_rfl) (by kernel_rfl) ?_); (simp only [List.take_succ_cons, List.take_zero, List.drop_succ_cons, List.drop_zero]); (repeat (first | (go_big_quiet_want; refine gate_qload _ _ rfl ?_; (first | (refine quiet_mloadA 23 _ rfl _ rfl 1 H #[.int .u8 _, .bool _] rfl (by decide +kernel) (by kernel_rfl) ?_) | (refine quiet_mload 25 _ rfl _ _ rfl 2 H _ #[.int .u8 _, .int .u8 _] rfl (by decide +kernel) (by kernel_rfl) (part2 rfl rfl) ?_)); simp only [Act.put, List.setIfInBounds_toArray, List.set_cons_succ, List.set_cons_zero]; go_big_quiet_on) | go_big_quiet_step ((first | (go_at_call 225; (with_reducible exact Calls.regrown_of (arol_ct _ _ _ _ _ (by first | assumption | decide | omega) (by first | assumption | decide | omega) (by first | assumption | decide | omega) (by first | assumption | decide | omega) (by first | assumption | decide | omega) (by first | assumption | decide | omega)))) | fail)))); (refine wpQuiet_nil ?_); intro _ hw'; obtain ⟨⟨dq, osq⟩, hw''⟩ := hw'; (subst hw''); replace H := H.next (below_regrown _ dq osq)
  go_wp2_with (first | (go_at_call 222; obtain ⟨T0, hT⟩ := H.get (i := 2) rfl; (with_reducible refine Calls.mono (with_ct _ _ _ _ _ _ _ _ hT) ?_); rintro e w2 ⟨rfl, hm⟩; replace H := H.call (i := 2) rfl hm; clear hm hT; simp only [List.set_cons_zero, List.set_cons_succ] at H) | go_skip | (refine gate_store _ _ _ rfl ?_; (first | (refine wpList_mstoreA rfl 23 _ _ rfl rfl _ rfl 0 H #[.int .u8 _, .bool _] _ rfl rfl (by kernel_rfl) (by kernel_rfl) (by kernel_rfl) ?_)); clear H; intro w1 H; simp only [List.set_cons_zero, List.set_cons_succ] at H) | fail)
  first | refine ret_mem1 rfl _ rfl 0 H _ rfl (by kernel_rfl) (by kernel_rfl) rfl ?_ | refine ret_mem1 rfl _ rfl 1 H _ rfl (by kernel_rfl) (by kernel_rfl) rfl ?_ | refine ret_mem1 rfl _ rfl 2 H _ rfl (by kernel_rfl) (by kernel_rfl) rfl ?_
  exact ⟨rfl, H.only (i := 2) rfl⟩

set_option maxHeartbeats 2000000 in
theorem k_ror (s : Wk) (v : Int) (b : Bool) (F : Fiw s) (g0 : 0 ≤ v) (g1 : v < 256) : CR 187 s v b (rorM s v b) := by
  intro R T w hR
  have FF := F
  obtain ⟨⟨a0, a1, x0, x1, y0, y1, s0, s1, p0, p1, q0, q1, cp, cq, pc0, pc1, op0, op1, ad0, ad1, d0, d1⟩, v0, v1⟩ := F
  have F := FF
  clear cp cq FF
  have HZB := Lib.hid alloc_by
  have HZU := Lib.hid alloc_bus
  have H := Mem.begin hR
  clear hR
  have MR1 : True := trivial
  have MR2 : True := trivial
  go_enter Tryz.func187, Tryz.ntmps187
  go_wp2_with (first | (refine wpList_mboxA rfl _ _ rfl H _ rfl ?_; clear H; (first | (clear MR1; intro R1 w1 _ H) | (clear MR2; intro R2 w1 _ H))) | go_skip | (refine wpList_mnew rfl _ rfl H _ HZB.out ?_; clear H; (first | (clear MR1; intro R1 w1 _ H) | (clear MR2; intro R2 w1 _ H))) | fail)
  (try simp only [Act.put, List.setIfInBounds_toArray, List.set_cons_succ, List.set_cons_zero])
  (refine wp_region_tails_below 10 (by kernel_rfl) (by kernel_rfl) ?_); (simp only [List.take_succ_cons, List.take_zero, List.drop_succ_cons, List.drop_zero]); (repeat (first | (go_big_quiet_want; refine gate_qload _ _ rfl ?_; (first | (refine quiet_mloadA 23 _ rfl _ rfl 1 H #[.int .u8 _, .bool _] rfl (by decide +kernel) (by kernel_rfl) ?_) | (refine quiet_mload 25 _ rfl _ _ rfl 2 H _ #[.int .u8 _, .int .u8 _] rfl (by decide +kernel) (by kernel_rfl) (part2 rfl rfl) ?_)); simp only [Act.put, List.setIfInBounds_toArray, List.set_cons_succ, List.set_cons_zero]; go_big_quiet_on) | go_big_quiet_step ((first | (go_at_call 226; (with_reducible exact Calls.regrown_of (aror_ct _ _ _ _ _ (by first | assumption | decide | omega) (by first | assumption | decide | omega) (by first | assumption | decide | omega) (by first | assumption | decide | omega) (by first | assumption | decide | omega) (by first | assumption | decide | omega)))) | fail)))); (refine wpQuiet_nil ?_); intro _ hw'; obtain ⟨⟨dq, osq⟩, hw''⟩ := hw'; (subst hw''); replace H := H.next (below_regrown _ dq osq)
  go_wp2_with (first | (go_at_call 222; obtain ⟨T0, hT⟩ := H.get (i := 2) rfl; (with_reducible refine Calls.mono (with_ct _ _ _ _ _ _ _ _ hT) ?_); rintro e w2 ⟨rfl, hm⟩; replace H := H.call (i := 2) rfl hm; clear hm hT; simp only [List.set_cons_zero, List.set_cons_succ] at H) | go_skip | (refine gate_store _ _ _ rfl ?_; (first | (refine wpList_mstoreA rfl 23 _ _ rfl rfl _ rfl 0 H #[.int .u8 _, .bool _] _ rfl rfl (by kernel_rfl) (by kernel_rfl) (by kernel_rfl) ?_)); clear H; intro w1 H; simp only [List.set_cons_zero, List.set_cons_succ] at H) | fail)
  first | refine ret_mem1 rfl _ rfl 0 H _ rfl (by kernel_rfl) (by kernel_rfl) rfl ?_ | refine ret_mem1 rfl _ rfl 1 H _ rfl (by kernel_rfl) (by kernel_rfl) rfl ?_ | refine ret_mem1 rfl _ rfl 2 H _ rfl (by kernel_rfl) (by kernel_rfl) rfl ?_
  exact ⟨rfl, H.only (i := 2) rfl⟩

set_option maxHeartbeats 2000000 in
theorem k_inc (s : Wk) (v : Int) (b : Bool) (F : Fiw s) (g0 : 0 ≤ v) (g1 : v < 256) : CR 188 s v b (incM s v b) := by
  intro R T w hR
  have FF := F
  obtain ⟨⟨a0, a1, x0, x1, y0, y1, s0, s1, p0, p1, q0, q1, cp, cq, pc0, pc1, op0, op1, ad0, ad1, d0, d1⟩, v0, v1⟩ := F
  have F := FF
  clear cp cq FF
  have HZB := Lib.hid alloc_by
  have HZU := Lib.hid alloc_bus
  have H := Mem.begin hR
  clear hR
  have MR1 : True := trivial
  have MR2 : True := trivial
  go_enter Tryz.func188, Tryz.ntmps188
  go_wp2_with (first | (go_at_call 183; (with_reducible refine (more_ct _ _ _ _).mono ?_); rintro e w2 ⟨rfl, hB⟩; replace H := H.next hB; clear hB) | (go_at_call 178; (with_reducible refine Calls.mono (loadB_ct _ _ _ _ _ F (by first | assumption | with_unfolding_all exact (mod8_le _).1) (by first | assumption | with_unfolding_all exact (mod8_le _).2) _ _ _ _ _ _ (Mem.begin2 (i := 1) (j := 2) H rfl rfl (by decide))) ?_); rintro e w2 ⟨rfl, hm⟩; replace H := Mem.call2 H hm; clear hm) | (refine wpList_mboxA rfl _ _ rfl H _ rfl ?_; clear H; (first | (clear MR1; intro R1 w1 _ H) | (clear MR2; intro R2 w1 _ H))) | go_skip | (refine gate_load _ _ rfl ?_; first | (refine wpList_mloadA rfl 23 _ rfl _ rfl 1 H #[.int .u8 _, .bool _] rfl (by decide +kernel) (by kernel_rfl) ?_)) | (refine gate_store _ _ _ rfl ?_; (first | (refine wpList_mstoreA rfl 23 _ _ rfl rfl _ rfl 0 H #[.int .u8 _, .bool _] _ rfl rfl (by kernel_rfl) (by kernel_rfl) (by kernel_rfl) ?_)); clear H; intro w1 H; simp only [List.set_cons_zero, List.set_cons_succ] at H) | (refine wpList_mnew rfl _ rfl H _ HZB.out ?_; clear H; (first | (clear MR1; intro R1 w1 _ H) | (clear MR2; intro R2 w1 _ H))) | fail)
  first | refine ret_mem1 rfl _ rfl 0 H _ rfl (by kernel_rfl) (by kernel_rfl) rfl ?_ | refine ret_mem1 rfl _ rfl 1 H _ rfl (by kernel_rfl) (by kernel_rfl) rfl ?_ | refine ret_mem1 rfl _ rfl 2 H _ rfl (by kernel_rfl) (by kernel_rfl) rfl ?_
  exact ⟨rfl, H.only (i := 2) rfl⟩

set_option maxHeartbeats 2000000 in
theorem k_dec (s : Wk) (v : Int) (b : Bool) (F : Fiw s) (g0 : 0 ≤ v) (g1 : v < 256) : CR 189 s v b (decM s v b) := by
  intro R T w hR
  have FF := F
  obtain ⟨⟨a0, a1, x0, x1, y0, y1, s0, s1, p0, p1, q0, q1, cp, cq, pc0, pc1, op0, op1, ad0, ad1, d0, d1⟩, v0, v1⟩ := F
  have F := FF
  clear cp cq FF
  have HZB := Lib.hid alloc_by
  have HZU := Lib.hid alloc_bus
  have H := Mem.begin hR
  clear hR
  have MR1 : True := trivial
  have MR2 : True := trivial
  go_enter Tryz.func189, Tryz.ntmps189
  go_wp2_with (first | (go_at_call 183; (with_reducible refine (more_ct _ _ _ _).mono ?_); rintro e w2 ⟨rfl, hB⟩; replace H := H.next hB; clear hB) | (go_at_call 178; (with_reducible refine Calls.mono (loadB_ct _ _ _ _ _ F (by first | assumption | with_unfolding_all exact (mod8_le _).1) (by first | assumption | with_unfolding_all exact (mod8_le _).2) _ _ _ _ _ _ (Mem.begin2 (i := 1) (j := 2) H rfl rfl (by decide))) ?_); rintro e w2 ⟨rfl, hm⟩; replace H := Mem.call2 H hm; clear hm) | (refine wpList_mboxA rfl _ _ rfl H _ rfl ?_; clear H; (first | (clear MR1; intro R1 w1 _ H) | (clear MR2; intro R2 w1 _ H))) | go_skip | (refine gate_load _ _ rfl ?_; first | (refine wpList_mloadA rfl 23 _ rfl _ rfl 1 H #[.int .u8 _, .bool _] rfl (by decide +kernel) (by kernel_rfl) ?_)) | (refine gate_store _ _ _ rfl ?_; (first | (refine wpList_mstoreA rfl 23 _ _ rfl rfl _ rfl 0 H #[.int .u8 _, .bool _] _ rfl rfl (by kernel_rfl) (by kernel_rfl) (by kernel_rfl) ?_)); clear H; intro w1 H; simp only [List.set_cons_zero, List.set_cons_succ] at H) | (refine wpList_mnew rfl _ rfl H _ HZB.out ?_; clear H; (first | (clear MR1; intro R1 w1 _ H) | (clear MR2; intro R2 w1 _ H))) | fail)
  first | refine ret_mem1 rfl _ rfl 0 H _ rfl (by kernel_rfl) (by kernel_rfl) rfl ?_ | refine ret_mem1 rfl _ rfl 1 H _ rfl (by kernel_rfl) (by kernel_rfl) rfl ?_ | refine ret_mem1 rfl _ rfl 2 H _ rfl (by kernel_rfl) (by kernel_rfl) rfl ?_
  exact ⟨rfl, H.only (i := 2) rfl⟩

set_option maxHeartbeats 2000000 in
theorem k_slo (s : Wk) (v : Int) (b : Bool) (F : Fiw s) (g0 : 0 ≤ v) (g1 : v < 256) : CR 190 s v b (let r := aslM s v b; (oraW r.1 r.2.1 r.2.2, r.2.1, r.2.2)) := by
  intro R T w hR
  have FF := F
  obtain ⟨⟨a0, a1, x0, x1, y0, y1, s0, s1, p0, p1, q0, q1, cp, cq, pc0, pc1, op0, op1, ad0, ad1, d0, d1⟩, v0, v1⟩ := F
  have F := FF
  clear cp cq FF
  have G : FiwV (aslM s v b) := ⟨Fit.flags F (fl1_put _ _ _) (fl1_put _ _ _), leftV_le _ _⟩
  obtain ⟨G1, G2, G3⟩ := G
  have HZB := Lib.hid alloc_by
  have HZU := Lib.hid alloc_bus
  have H := Mem.begin hR
  clear hR
  have MR1 : True := trivial
  have MR2 : True := trivial
  go_enter Tryz.func190, Tryz.ntmps190
  go_wp2_with (first | (go_at_call 184; obtain ⟨T0, hT⟩ := H.get (i := 2) rfl; (with_reducible refine Calls.mono (k_asl _ _ _ F g0 g1 _ _ _ hT) ?_); rintro e w2 ⟨rfl, hm⟩; replace H := H.call (i := 2) rfl hm; clear hm hT; simp only [List.set_cons_zero, List.set_cons_succ] at H) | (go_at_call 201; obtain ⟨T0, hT⟩ := H.get (i := 2) rfl; (with_reducible refine Calls.mono (k_ora _ _ _ G1 G2 G3 _ _ _ hT) ?_); rintro e w2 ⟨rfl, hm⟩; replace H := H.call (i := 2) rfl hm; clear hm hT; simp only [List.set_cons_zero, List.set_cons_succ] at H) | (refine wpList_mboxA rfl _ _ rfl H _ rfl ?_; clear H; (first | (clear MR1; intro R1 w1 _ H) | (clear MR2; intro R2 w1 _ H))) | go_skip | (refine gate_load _ _ rfl ?_; first | (refine wpList_mloadA rfl 23 _ rfl _ rfl 1 H #[.int .u8 _, .bool _] rfl (by decide +kernel) (by kernel_rfl) ?_)) | (refine gate_store _ _ _ rfl ?_; (first | (refine wpList_mstoreA rfl 23 _ _ rfl rfl _ rfl 0 H #[.int .u8 _, .bool _] _ rfl rfl (by kernel_rfl) (by kernel_rfl) (by kernel_rfl) ?_) | (refine wpList_mstoreA rfl 23 _ _ rfl rfl _ rfl 1 H #[.int .u8 _, .bool _] _ rfl rfl (by kernel_rfl) (by kernel_rfl) (by kernel_rfl) ?_)); clear H; intro w1 H; simp only [List.set_cons_zero, List.set_cons_succ] at H) | (refine wpList_mnew rfl _ rfl H _ HZB.out ?_; clear H; (first | (clear MR1; intro R1 w1 _ H) | (clear MR2; intro R2 w1 _ H))) | fail)
  first | refine ret_mem1 rfl _ rfl 0 H _ rfl (by kernel_rfl) (by kernel_rfl) rfl ?_ | refine ret_mem1 rfl _ rfl 1 H _ rfl (by kernel_rfl) (by kernel_rfl) rfl ?_ | refine ret_mem1 rfl _ rfl 2 H _ rfl (by kernel_rfl) (by kernel_rfl) rfl ?_
  exact ⟨rfl, H.only (i := 2) rfl⟩

set_option maxHeartbeats 2000000 in
theorem k_rla (s : Wk) (v : Int) (b : Bool) (F : Fiw s) (g0 : 0 ≤ v) (g1 : v < 256) : CR 191 s v b (let r := rolM s v b; (andW r.1 r.2.1 r.2.2, r.2.1, r.2.2)) := by
  intro R T w hR
  have FF := F
  obtain ⟨⟨a0, a1, x0, x1, y0, y1, s0, s1, p0, p1, q0, q1, cp, cq, pc0, pc1, op0, op1, ad0, ad1, d0, d1⟩, v0, v1⟩ := F
  have F := FF
  clear cp cq FF
  have G : FiwV (rolM s v b) := ⟨Fit.flags F (fl1_put _ _ _) (fl1_put _ _ _), leftV_le _ _⟩
  obtain ⟨G1, G2, G3⟩ := G
  have HZB := Lib.hid alloc_by
  have HZU := Lib.hid alloc_bus
  have H := Mem.begin hR
  clear hR
  have MR1 : True := trivial
  have MR2 : True := trivial
  go_enter Tryz.func191, Tryz.ntmps191
  go_wp2_with (first | (go_at_call 186; obtain ⟨T0, hT⟩ := H.get (i := 2) rfl; (with_reducible refine Calls.mono (k_rol _ _ _ F g0 g1 _ _ _ hT) ?_); rintro e w2 ⟨rfl, hm⟩; replace H := H.call (i := 2) rfl hm; clear hm hT; simp only [List.set_cons_zero, List.set_cons_succ] at H) | (go_at_call 202; obtain ⟨T0, hT⟩ := H.get (i := 2) rfl; (with_reducible refine Calls.mono (k_and _ _ _ G1 G2 G3 _ _ _ hT) ?_); rintro e w2 ⟨rfl, hm⟩; replace H := H.call (i := 2) rfl hm; clear hm hT; simp only [List.set_cons_zero, List.set_cons_succ] at H) | (refine wpList_mboxA rfl _ _ rfl H _ rfl ?_; clear H; (first | (clear MR1; intro R1 w1 _ H) | (clear MR2; intro R2 w1 _ H))) | go_skip | (refine gate_load _ _ rfl ?_; first | (refine wpList_mloadA rfl 23 _ rfl _ rfl 1 H #[.int .u8 _, .bool _] rfl (by decide +kernel) (by kernel_rfl) ?_)) | (refine gate_store _ _ _ rfl ?_; (first | (refine wpList_mstoreA rfl 23 _ _ rfl rfl _ rfl 0 H #[.int .u8 _, .bool _] _ rfl rfl (by kernel_rfl) (by kernel_rfl) (by kernel_rfl) ?_) | (refine wpList_mstoreA rfl 23 _ _ rfl rfl _ rfl 1 H #[.int .u8 _, .bool _] _ rfl rfl (by kernel_rfl) (by kernel_rfl) (by kernel_rfl) ?_)); clear H; intro w1 H; simp only [List.set_cons_zero, List.set_cons_succ] at H) | (refine wpList_mnew rfl _ rfl H _ HZB.out ?_; clear H; (first | (clear MR1; intro R1 w1 _ H) | (clear MR2; intro R2 w1 _ H))) | fail)
  first | refine ret_mem1 rfl _ rfl 0 H _ rfl (by kernel_rfl) (by kernel_rfl) rfl ?_ | refine ret_mem1 rfl _ rfl 1 H _ rfl (by kernel_rfl) (by kernel_rfl) rfl ?_ | refine ret_mem1 rfl _ rfl 2 H _ rfl (by kernel_rfl) (by kernel_rfl) rfl ?_
  exact ⟨rfl, H.only (i := 2) rfl⟩

set_option maxHeartbeats 2000000 in
theorem k_sre (s : Wk) (v : Int) (b : Bool) (F : Fiw s) (g0 : 0 ≤ v) (g1 : v < 256) : CR 192 s v b (let r := lsrM s v b; (eorW r.1 r.2.1 r.2.2, r.2.1, r.2.2)) := by
  intro R T w hR
  have FF := F
  obtain ⟨⟨a0, a1, x0, x1, y0, y1, s0, s1, p0, p1, q0, q1, cp, cq, pc0, pc1, op0, op1, ad0, ad1, d0, d1⟩, v0, v1⟩ := F
  have F := FF
  clear cp cq FF
  have G : FiwV (lsrM s v b) := ⟨Fit.flags F (fl1_put _ _ _) (fl1_put _ _ _), rightV_le _ _⟩
  obtain ⟨G1, G2, G3⟩ := G
  have HZB := Lib.hid alloc_by
  have HZU := Lib.hid alloc_bus
  have H := Mem.begin hR
  clear hR
  have MR1 : True := trivial
  have MR2 : True := trivial
  go_enter Tryz.func192, Tryz.ntmps192
  go_wp2_with (first | (go_at_call 185; obtain ⟨T0, hT⟩ := H.get (i := 2) rfl; (with_reducible refine Calls.mono (k_lsr _ _ _ F g0 g1 _ _ _ hT) ?_); rintro e w2 ⟨rfl, hm⟩; replace H := H.call (i := 2) rfl hm; clear hm hT; simp only [List.set_cons_zero, List.set_cons_succ] at H) | (go_at_call 203; obtain ⟨T0, hT⟩ := H.get (i := 2) rfl; (with_reducible refine Calls.mono (k_eor _ _ _ G1 G2 G3 _ _ _ hT) ?_); rintro e w2 ⟨rfl, hm⟩; replace H := H.call (i := 2) rfl hm; clear hm hT; simp only [List.set_cons_zero, List.set_cons_succ] at H) | (refine wpList_mboxA rfl _ _ rfl H _ rfl ?_; clear H; (first | (clear MR1; intro R1 w1 _ H) | (clear MR2; intro R2 w1 _ H))) | go_skip | (refine gate_load _ _ rfl ?_; first | (refine wpList_mloadA rfl 23 _ rfl _ rfl 1 H #[.int .u8 _, .bool _] rfl (by decide +kernel) (by kernel_rfl) ?_)) | (refine gate_store _ _ _ rfl ?_; (first | (refine wpList_mstoreA rfl 23 _ _ rfl rfl _ rfl 0 H #[.int .u8 _, .bool _] _ rfl rfl (by kernel_rfl) (by kernel_rfl) (by kernel_rfl) ?_) | (refine wpList_mstoreA rfl 23 _ _ rfl rfl _ rfl 1 H #[.int .u8 _, .bool _] _ rfl rfl (by kernel_rfl) (by kernel_rfl) (by kernel_rfl) ?_)); clear H; intro w1 H; simp only [List.set_cons_zero, List.set_cons_succ] at H) | (refine wpList_mnew rfl _ rfl H _ HZB.out ?_; clear H; (first | (clear MR1; intro R1 w1 _ H) | (clear MR2; intro R2 w1 _ H))) | fail)
  first | refine ret_mem1 rfl _ rfl 0 H _ rfl (by kernel_rfl) (by kernel_rfl) rfl ?_ | refine ret_mem1 rfl _ rfl 1 H _ rfl (by kernel_rfl) (by kernel_rfl) rfl ?_ | refine ret_mem1 rfl _ rfl 2 H _ rfl (by kernel_rfl) (by kernel_rfl) rfl ?_
  exact ⟨rfl, H.only (i := 2) rfl⟩

set_option maxHeartbeats 2000000 in
theorem k_rra (s : Wk) (v : Int) (b : Bool) (F : Fiw s) (g0 : 0 ≤ v) (g1 : v < 256) : CR 193 s v b (let r := rorM s v b; (adcW r.1 r.2.1 r.2.2, r.2.1, r.2.2)) := by
  intro R T w hR
  have FF := F
  obtain ⟨⟨a0, a1, x0, x1, y0, y1, s0, s1, p0, p1, q0, q1, cp, cq, pc0, pc1, op0, op1, ad0, ad1, d0, d1⟩, v0, v1⟩ := F
  have F := FF
  clear cp cq FF
  have G : FiwV (rorM s v b) := ⟨Fit.flags F (fl1_put _ _ _) (fl1_put _ _ _), rightV_le _ _⟩
  obtain ⟨G1, G2, G3⟩ := G
  have HZB := Lib.hid alloc_by
  have HZU := Lib.hid alloc_bus
  have H := Mem.begin hR
  clear hR
  have MR1 : True := trivial
  have MR2 : True := trivial
  go_enter Tryz.func193, Tryz.ntmps193
  go_wp2_with (first | (go_at_call 187; obtain ⟨T0, hT⟩ := H.get (i := 2) rfl; (with_reducible refine Calls.mono (k_ror _ _ _ F g0 g1 _ _ _ hT) ?_); rintro e w2 ⟨rfl, hm⟩; replace H := H.call (i := 2) rfl hm; clear hm hT; simp only [List.set_cons_zero, List.set_cons_succ] at H) | (go_at_call 204; obtain ⟨T0, hT⟩ := H.get (i := 2) rfl; (with_reducible refine Calls.mono (k_adc _ _ _ G1 G2 G3 _ _ _ hT) ?_); rintro e w2 ⟨rfl, hm⟩; replace H := H.call (i := 2) rfl hm; clear hm hT; simp only [List.set_cons_zero, List.set_cons_succ] at H) | (refine wpList_mboxA rfl _ _ rfl H _ rfl ?_; clear H; (first | (clear MR1; intro R1 w1 _ H) | (clear MR2; intro R2 w1 _ H))) | go_skip | (refine gate_load _ _ rfl ?_; first | (refine wpList_mloadA rfl 23 _ rfl _ rfl 1 H #[.int .u8 _, .bool _] rfl (by decide +kernel) (by kernel_rfl) ?_)) | (refine gate_store _ _ _ rfl ?_; (first | (refine wpList_mstoreA rfl 23 _ _ rfl rfl _ rfl 0 H #[.int .u8 _, .bool _] _ rfl rfl (by kernel_rfl) (by kernel_rfl) (by kernel_rfl) ?_) | (refine wpList_mstoreA rfl 23 _ _ rfl rfl _ rfl 1 H #[.int .u8 _, .bool _] _ rfl rfl (by kernel_rfl) (by kernel_rfl) (by kernel_rfl) ?_)); clear H; intro w1 H; simp only [List.set_cons_zero, List.set_cons_succ] at H) | (refine wpList_mnew rfl _ rfl H _ HZB.out ?_; clear H; (first | (clear MR1; intro R1 w1 _ H) | (clear MR2; intro R2 w1 _ H))) | fail)
  first | refine ret_mem1 rfl _ rfl 0 H _ rfl (by kernel_rfl) (by kernel_rfl) rfl ?_ | refine ret_mem1 rfl _ rfl 1 H _ rfl (by kernel_rfl) (by kernel_rfl) rfl ?_ | refine ret_mem1 rfl _ rfl 2 H _ rfl (by kernel_rfl) (by kernel_rfl) rfl ?_
  exact ⟨rfl, H.only (i := 2) rfl⟩

set_option maxHeartbeats 2000000 in
theorem k_dcp (s : Wk) (v : Int) (b : Bool) (F : Fiw s) (g0 : 0 ≤ v) (g1 : v < 256) : CR 194 s v b (let r := decM s v b; (cmpA r.1 r.2.1 r.2.2, r.2.1, r.2.2)) := by
  intro R T w hR
  have FF := F
  obtain ⟨⟨a0, a1, x0, x1, y0, y1, s0, s1, p0, p1, q0, q1, cp, cq, pc0, pc1, op0, op1, ad0, ad1, d0, d1⟩, v0, v1⟩ := F
  have F := FF
  clear cp cq FF
  have G : FiwV (decM s v b) := ⟨Fit.flags F (fl1_put _ _ _) (fl1_put _ _ _), mod8_le _⟩
  obtain ⟨G1, G2, G3⟩ := G
  have HZB := Lib.hid alloc_by
  have HZU := Lib.hid alloc_bus
  have H := Mem.begin hR
  clear hR
  have MR1 : True := trivial
  have MR2 : True := trivial
  go_enter Tryz.func194, Tryz.ntmps194
  go_wp2_with (first | (go_at_call 189; obtain ⟨T0, hT⟩ := H.get (i := 2) rfl; (with_reducible refine Calls.mono (k_dec _ _ _ F g0 g1 _ _ _ hT) ?_); rintro e w2 ⟨rfl, hm⟩; replace H := H.call (i := 2) rfl hm; clear hm hT; simp only [List.set_cons_zero, List.set_cons_succ] at H) | (go_at_call 206; obtain ⟨T0, hT⟩ := H.get (i := 2) rfl; (with_reducible refine Calls.mono (k_cmp _ _ _ G1 G2 G3 _ _ _ hT) ?_); rintro e w2 ⟨rfl, hm⟩; replace H := H.call (i := 2) rfl hm; clear hm hT; simp only [List.set_cons_zero, List.set_cons_succ] at H) | (refine wpList_mboxA rfl _ _ rfl H _ rfl ?_; clear H; (first | (clear MR1; intro R1 w1 _ H) | (clear MR2; intro R2 w1 _ H))) | go_skip | (refine gate_load _ _ rfl ?_; first | (refine wpList_mloadA rfl 23 _ rfl _ rfl 1 H #[.int .u8 _, .bool _] rfl (by decide +kernel) (by kernel_rfl) ?_)) | (refine gate_store _ _ _ rfl ?_; (first | (refine wpList_mstoreA rfl 23 _ _ rfl rfl _ rfl 0 H #[.int .u8 _, .bool _] _ rfl rfl (by kernel_rfl) (by kernel_rfl) (by kernel_rfl) ?_) | (refine wpList_mstoreA rfl 23 _ _ rfl rfl _ rfl 1 H #[.int .u8 _, .bool _] _ rfl rfl (by kernel_rfl) (by kernel_rfl) (by kernel_rfl) ?_)); clear H; intro w1 H; simp only [List.set_cons_zero, List.set_cons_succ] at H) | (refine wpList_mnew rfl _ rfl H _ HZB.out ?_; clear H; (first | (clear MR1; intro R1 w1 _ H) | (clear MR2; intro R2 w1 _ H))) | fail)
  first | refine ret_mem1 rfl _ rfl 0 H _ rfl (by kernel_rfl) (by kernel_rfl) rfl ?_ | refine ret_mem1 rfl _ rfl 1 H _ rfl (by kernel_rfl) (by kernel_rfl) rfl ?_ | refine ret_mem1 rfl _ rfl 2 H _ rfl (by kernel_rfl) (by kernel_rfl) rfl ?_
  exact ⟨rfl, H.only (i := 2) rfl⟩

set_option maxHeartbeats 2000000 in
theorem k_isc (s : Wk) (v : Int) (b : Bool) (F : Fiw s) (g0 : 0 ≤ v) (g1 : v < 256) : CR 195 s v b (let r := incM s v b; (sbcW r.1 r.2.1 r.2.2, r.2.1, r.2.2)) := by
  intro R T w hR
  have FF := F
  obtain ⟨⟨a0, a1, x0, x1, y0, y1, s0, s1, p0, p1, q0, q1, cp, cq, pc0, pc1, op0, op1, ad0, ad1, d0, d1⟩, v0, v1⟩ := F
  have F := FF
  clear cp cq FF
  have G : FiwV (incM s v b) := ⟨Fit.flags F (fl1_put _ _ _) (fl1_put _ _ _), mod8_le _⟩
  obtain ⟨G1, G2, G3⟩ := G
  have HZB := Lib.hid alloc_by
  have HZU := Lib.hid alloc_bus
  have H := Mem.begin hR
  clear hR
  have MR1 : True := trivial
  have MR2 : True := trivial
  go_enter Tryz.func195, Tryz.ntmps195
  go_wp2_with (first | (go_at_call 188; obtain ⟨T0, hT⟩ := H.get (i := 2) rfl; (with_reducible refine Calls.mono (k_inc _ _ _ F g0 g1 _ _ _ hT) ?_); rintro e w2 ⟨rfl, hm⟩; replace H := H.call (i := 2) rfl hm; clear hm hT; simp only [List.set_cons_zero, List.set_cons_succ] at H) | (go_at_call 205; obtain ⟨T0, hT⟩ := H.get (i := 2) rfl; (with_reducible refine Calls.mono (k_sbc _ _ _ G1 G2 G3 _ _ _ hT) ?_); rintro e w2 ⟨rfl, hm⟩; replace H := H.call (i := 2) rfl hm; clear hm hT; simp only [List.set_cons_zero, List.set_cons_succ] at H) | (refine wpList_mboxA rfl _ _ rfl H _ rfl ?_; clear H; (first | (clear MR1; intro R1 w1 _ H) | (clear MR2; intro R2 w1 _ H))) | go_skip | (refine gate_load _ _ rfl ?_; first | (refine wpList_mloadA rfl 23 _ rfl _ rfl 1 H #[.int .u8 _, .bool _] rfl (by decide +kernel) (by kernel_rfl) ?_)) | (refine gate_store _ _ _ rfl ?_; (first | (refine wpList_mstoreA rfl 23 _ _ rfl rfl _ rfl 0 H #[.int .u8 _, .bool _] _ rfl rfl (by kernel_rfl) (by kernel_rfl) (by kernel_rfl) ?_) | (refine wpList_mstoreA rfl 23 _ _ rfl rfl _ rfl 1 H #[.int .u8 _, .bool _] _ rfl rfl (by kernel_rfl) (by kernel_rfl) (by kernel_rfl) ?_)); clear H; intro w1 H; simp only [List.set_cons_zero, List.set_cons_succ] at H) | (refine wpList_mnew rfl _ rfl H _ HZB.out ?_; clear H; (first | (clear MR1; intro R1 w1 _ H) | (clear MR2; intro R2 w1 _ H))) | fail)
  first | refine ret_mem1 rfl _ rfl 0 H _ rfl (by kernel_rfl) (by kernel_rfl) rfl ?_ | refine ret_mem1 rfl _ rfl 1 H _ rfl (by kernel_rfl) (by kernel_rfl) rfl ?_ | refine ret_mem1 rfl _ rfl 2 H _ rfl (by kernel_rfl) (by kernel_rfl) rfl ?_
  exact ⟨rfl, H.only (i := 2) rfl⟩

set_option maxHeartbeats 2000000 in
theorem k_alr (s : Wk) (v : Int) (b : Bool) (F : Fiw s) (g0 : 0 ≤ v) (g1 : v < 256) : CB 211 s (lsrA (loadA s (bothV s.av v) (s.ab || b))) v b := by
  intro R T w hR
  have FF := F
  obtain ⟨⟨a0, a1, x0, x1, y0, y1, s0, s1, p0, p1, q0, q1, cp, cq, pc0, pc1, op0, op1, ad0, ad1, d0, d1⟩, v0, v1⟩ := F
  have F := FF
  clear cp cq FF
  have o1 := bothV_le s.av v a0 a1 g0 g1
  have G := Fit.loadA (b := s.ab || b) F o1
  have HZB := Lib.hid alloc_by
  have HZU := Lib.hid alloc_bus
  have H := Mem.begin hR
  clear hR
  have MR1 : True := trivial
  go_enter Tryz.func211, Tryz.ntmps211
  go_wp2_with (first | (go_at_call 202; obtain ⟨T0, hT⟩ := H.get (i := 1) rfl; (with_reducible refine Calls.mono (k_and _ _ _ F g0 g1 _ _ _ hT) ?_); rintro e w2 ⟨rfl, hm⟩; replace H := H.call (i := 1) rfl hm; clear hm hT; simp only [List.set_cons_zero, List.set_cons_succ] at H) | (go_at_call 185; obtain ⟨T0, hT⟩ := H.get (i := 1) rfl; (with_reducible refine Calls.mono (k_lsr _ _ _ G G.f.a0 G.f.a1 _ _ _ hT) ?_); rintro e w2 ⟨rfl, hm⟩; replace H := H.call (i := 1) rfl hm; clear hm hT; simp only [List.set_cons_zero, List.set_cons_succ] at H) | (refine wpList_mboxA rfl _ _ rfl H _ rfl ?_; clear H; (first | (clear MR1; intro R1 w1 _ H))) | go_skip | (refine gate_load _ _ rfl ?_; first | (refine wpList_mloadA rfl 23 _ rfl _ rfl 0 H #[.int .u8 _, .bool _] rfl (by decide +kernel) (by kernel_rfl) ?_) | (refine wpList_mload rfl 23 _ rfl _ _ rfl 1 H _ #[.int .u8 _, .bool _] rfl (by decide +kernel) (by kernel_rfl) (part2 rfl rfl) ?_)) | (refine gate_store _ _ _ rfl ?_; (first | (refine wpList_mstore rfl 23 _ _ rfl rfl _ _ rfl 1 H _ _ rfl (.agg #[.int .u8 _, .bool _]) rfl (by kernel_rfl) (of_decide_eq_true (by kernel_rfl)) (by kernel_rfl) (by first | with_reducible exact st_A _ _ _) ?_)); clear H; intro w1 H; simp only [List.set_cons_zero, List.set_cons_succ] at H) | fail)
  (try simp only [IntKind.wrap_u16, IntKind.wrap_u8] at H)
  all_goals (first | refine fall rfl rfl ?_ | refine fallr rfl rfl ?_)
  all_goals (refine ⟨rfl, ?_⟩; first | exact H.only (i := 1) rfl)

end Go.Proofs.YtbonamhinnhlnaaGreatDoor
