/-
  The document's plain answers for tiles: bit, Dot, lower, eight, Load, Shift. Over this seat's translation; no condition. (Written by gen_ti.py.)
-/
import Derived.Test.YtbgclhhhfldphaaTic
namespace Go.Proofs.Ytbgclhhhfldphaa
open Go.RowKit Go.Sort
set_option linter.unusedSimpArgs false
set_option linter.unusedVariables false
set_option maxRecDepth 20000

theorem lower_num (n : BitVec 16) (v : BitVec 8) (q x : Int) (hq : w16 n / 256 = q) (hx : w8 v = x) : q * 256 + x = w16 (ldB n v) := by
  rw [ldB_num, ← hq, ← hx]
theorem tint_m1 (v : BitVec 8) : ((w8 v).tmod 2 == 1) = v.getLsbD 0 := by
  have h : ∀ v : BitVec 8, ((w8 v).tmod 2 == 1) = v.getLsbD 0 := by decide +kernel
  exact h v
theorem tint_m2 (v : BitVec 8) : (((w8 v).tdiv 2).tmod 2 == 1) = v.getLsbD 1 := by
  have h : ∀ v : BitVec 8, (((w8 v).tdiv 2).tmod 2 == 1) = v.getLsbD 1 := by decide +kernel
  exact h v
theorem tint_m3 (v : BitVec 8) : ((w8 v).tdiv 2 % 2 == 1) = v.getLsbD 1 := by
  have h : ∀ v : BitVec 8, ((w8 v).tdiv 2 % 2 == 1) = v.getLsbD 1 := by decide +kernel
  exact h v
theorem w8_small (v : BitVec 8) : (w8 v).tdiv 2 % 256 = (w8 v).tdiv 2 := by
  have h : ∀ v : BitVec 8, (w8 v).tdiv 2 % 256 = (w8 v).tdiv 2 := by decide +kernel
  exact h v
set_option maxHeartbeats 2000000 in
theorem rbit14_ct (n : BitVec 16) (i : Int) (i0 : 0 ≤ i) (i1 : i < 16) (w : World) : Calls Try.prog 20 #[.int .u16 (w16 n), .int .i64 i] w fun e w' => e = .returned (.int .i64 (b2i (n.getLsbD i.toNat))) ∧ Below w.heap.size w w' := by
  have hn := w16_lt n
  have e := w16_bit n i.toNat
  have hq0 : 0 ≤ w16 n / 2 ^ i.toNat := Int.ediv_nonneg hn.1 (Int.pow_nonneg (by decide))
  have em : (w16 n / 2 ^ i.toNat).tmod 2 = b2i (n.getLsbD i.toNat) := by rw [Int.tmod_eq_emod_of_nonneg hq0, e]
  clear e hq0
  go_enter Try.func20, Try.ntmps20
  go_wp2
  go_ret
  exact ⟨by first | rfl | rw [em], Below.refl _ _⟩
set_option maxHeartbeats 2000000 in
theorem rlower14_ct (n : BitVec 16) (v : BitVec 8) (w : World) : Calls Try.prog 22 #[.int .u16 (w16 n), .int .i64 (w8 v)] w fun e w' => e = .returned (.int .u16 (w16 (ldB n v))) ∧ Below w.heap.size w w' := by
  have hn := w16_lt n
  have hv := w8_lt v
  have E := lower_num n v _ _ rfl rfl
  obtain ⟨q, hq⟩ : ∃ q, w16 n / 256 = q := ⟨_, rfl⟩
  have et : (w16 n).tdiv 256 = q := by rw [Int.tdiv_eq_ediv_of_nonneg hn.1, hq]
  have q0 : 0 ≤ q := by omega
  have q1 : q < 256 := by omega
  rw [hq] at E
  obtain ⟨x, hx⟩ : ∃ x, w8 v = x := ⟨_, rfl⟩
  rw [hx] at E hv ⊢
  obtain ⟨h0, h1⟩ := hv
  clear hq hn hx
  go_enter Try.func22, Try.ntmps22
  go_wp2
  go_ret
  exact ⟨by first | (rw [← E]; done) | (rw [← E]; simp [IntKind.wrap_u16]; done) | (rw [← E]; simp [IntKind.wrap_u16]; omega), Below.refl _ _⟩
set_option maxHeartbeats 2000000 in
theorem reight14_ct (b : Bool) (w : World) : Calls Try.prog 23 #[.bool b] w fun e w' => e = .returned (.int .i64 (w8 (all8 b))) ∧ Below w.heap.size w w' := by
  cases b
  all_goals
    go_enter Try.func23, Try.ntmps23
    go_wp2
    go_ret
    exact ⟨rfl, Below.refl _ _⟩
attribute [local irreducible] wpList
set_option maxHeartbeats 2000000 in
theorem rdot14_ct (t : Ti) (x : BitVec 8) (w : World) : Calls Try.prog 9 #[.agg (tiC t), .int .u8 (w8 x)] w fun e w' => e = .returned (.tuple #[.int .u8 (dotT t (w8 x % 8).toNat), .bool (secT t (w8 x % 8).toNat)]) ∧ Below w.heap.size w w' := by
  obtain ⟨X, hX⟩ : ∃ X, w8 x % 8 = X := ⟨_, rfl⟩
  have hx := w8_lt x
  have hm : (w8 x).tmod 8 = X := by rw [Int.tmod_eq_emod_of_nonneg hx.1, hX]
  have x0 : 0 ≤ X := by omega
  have x7 : X < 8 := by omega
  have hn : (15 - X).toNat = 15 - X.toNat := by omega
  rw [hX]
  have QB := Lib.hid (fun (n : BitVec 16) wr => rbit14_ct n (15 - X) (by omega) (by omega) wr)
  rw [hn] at QB
  have hd := dotT_lt t X.toNat
  unfold dotT secT at *
  generalize 15 - X.toNat = n at *
  clear hx
  have H := Mem.start w
  have M1 : True := trivial
  go_enter Try.func9, Try.ntmps9
  go_wp2_with (first | (clear M1; refine wpList_mboxA rfl _ _ rfl H _ rfl ?_; clear H; intro Rc w1 _ H) | fail)
  (try simp only [Act.put, List.setIfInBounds_toArray, List.set_cons_succ, List.set_cons_zero])
  (refine wp_region_quiet_below (by kernel_rfl) (by kernel_rfl) ?_); (repeat (first | (go_big_quiet_want; refine gate_qload _ _ rfl ?_; refine quiet_mload1 22 _ rfl _ _ rfl 0 H _ (.int .u16 _) rfl rfl (by decide +kernel) ?_; simp only [Act.put, List.setIfInBounds_toArray, List.set_cons_succ, List.set_cons_zero]; go_big_quiet_on) | go_big_quiet_step ((first | (go_at_call 20; (with_reducible exact Calls.regrown_of (QB.out _ _))) | fail)))); (refine wpQuiet_nil ?_); intro _ hw'; obtain ⟨⟨dq, osq⟩, hw''⟩ := hw'; (subst hw''); replace H := H.next (below_regrown _ dq osq); generalize Go.Sort.grow (redrawn _ dq) osq = wq at *
  go_wp2
  go_ret2
  refine ⟨?_, H.toBelow⟩
  have hb : (b2i (t.s.getLsbD n) == 1) = t.s.getLsbD n := by cases t.s.getLsbD n <;> rfl
  have e4 := b2i_lt (t.lo.getLsbD n)
  have e5 := b2i_lt (t.hi.getLsbD n)
  have e6 := b2i_lt (t.one.getLsbD n)
  have e7 := b2i_lt (t.two.getLsbD n)
  simp [IntKind.wrap_u8, IntKind.wrap_i64, wrap64, hb]
  omega
set_option maxHeartbeats 4000000 in
theorem rload14_s (t : Ti) (lo hi tint : BitVec 8) (ls hs : Bool) (w : World) : Calls Try.prog 11 #[.agg (tiC t), .agg #[.int .u8 (w8 lo), .bool ls], .agg #[.int .u8 (w8 hi), .bool hs], .int .u8 (w8 tint), .bool true] w fun e w' => e = .returned (.agg (tiC (loadT t lo hi tint true))) ∧ Below w.heap.size w w' := by
  have HZ := Lib.hid alloc_ti
  have QL := Lib.hid (fun n v wr => rlower14_ct n v wr)
  have QE := Lib.hid (fun b wr => reight14_ct b wr)
  have e1 := tint_m1 tint
  have e2 := tint_m2 tint
  have e3 := w8_small tint
  have e4 := tint_m3 tint
  have l0 := (w8_lt lo).1
  have l1 := (w8_lt lo).2
  have h0 := (w8_lt hi).1
  have h1 := (w8_lt hi).2
  unfold loadT
  generalize tint.getLsbD 0 = p0 at *
  generalize tint.getLsbD 1 = p1 at *
  have H := Mem.start w
  have M1 : True := trivial
  have M2 : True := trivial
  have M3 : True := trivial
  have M4 : True := trivial
  go_enter Try.func11, Try.ntmps11
  go_wp2_with (first | (clear M1; refine wpList_mboxA rfl _ _ rfl H _ rfl ?_; clear H; intro Rc w1 _ H) | (clear M2; refine wpList_mboxA rfl _ _ rfl H _ rfl ?_; clear H; intro Rl w1 _ H) | (clear M3; refine wpList_mboxA rfl _ _ rfl H _ rfl ?_; clear H; intro Rh w1 _ H) | (clear M4; refine wpList_mnew rfl _ rfl H _ HZ.out ?_; clear H; intro Rr w1 _ H) | fail)
  (try simp only [Act.put, List.setIfInBounds_toArray, List.set_cons_succ, List.set_cons_zero])
  (refine wp_region_tails_below 41 (by kernel_rfl) (by kernel_rfl) ?_); (simp only [List.take_succ_cons, List.take_zero, List.drop_succ_cons, List.drop_zero]); (repeat (first | (go_big_quiet_want; refine gate_qload _ _ rfl ?_; refine quiet_mload1 22 _ rfl _ _ rfl 3 H _ (.int .u16 _) rfl rfl (by decide +kernel) ?_; simp only [Act.put, List.setIfInBounds_toArray, List.set_cons_succ, List.set_cons_zero]; go_big_quiet_on) | (go_big_quiet_want; refine gate_qload _ _ rfl ?_; refine quiet_mload1 5 _ rfl _ _ rfl 2 H _ (.int .u8 _) rfl rfl (by decide +kernel) ?_; simp only [Act.put, List.setIfInBounds_toArray, List.set_cons_succ, List.set_cons_zero]; go_big_quiet_on) | (go_big_quiet_want; refine gate_qload _ _ rfl ?_; refine quiet_mload1 5 _ rfl _ _ rfl 1 H _ (.int .u8 _) rfl rfl (by decide +kernel) ?_; simp only [Act.put, List.setIfInBounds_toArray, List.set_cons_succ, List.set_cons_zero]; go_big_quiet_on) | (go_big_quiet_want; refine gate_qload _ _ rfl ?_; refine quiet_mload1 4 _ rfl _ _ rfl 2 H _ (.bool _) rfl rfl (by decide +kernel) ?_; simp only [Act.put, List.setIfInBounds_toArray, List.set_cons_succ, List.set_cons_zero]; go_big_quiet_on) | (go_big_quiet_want; refine gate_qload _ _ rfl ?_; refine quiet_mload1 4 _ rfl _ _ rfl 1 H _ (.bool _) rfl rfl (by decide +kernel) ?_; simp only [Act.put, List.setIfInBounds_toArray, List.set_cons_succ, List.set_cons_zero]; go_big_quiet_on) | go_big_quiet_step ((first | (go_at_call 22; (with_reducible exact Calls.regrown_of (QL.out _ _ _))) | (go_at_call 23; (with_reducible exact Calls.regrown_of (QE.out _ _))) | fail)))); (refine wpQuiet_nil ?_); intro _ hw'; obtain ⟨⟨dq, osq⟩, hw''⟩ := hw'; (subst hw''); replace H := H.next (below_regrown _ dq osq); generalize Go.Sort.grow (redrawn _ dq) osq = wq at *
  go_wp2_with (first | (refine gate_store _ _ _ rfl ?_; refine wpList_mstoreA rfl 24 _ _ rfl rfl _ rfl 0 H (tiC _) _ rfl rfl (by kernel_rfl) (by kernel_rfl) (by kernel_rfl) ?_; clear H; intro w1 H; simp only [List.set_cons_zero, List.set_cons_succ] at H) | fail)
  refine ret_mem1 rfl _ rfl 0 H _ rfl (by kernel_rfl) (by kernel_rfl) rfl ?_
  exact ⟨rfl, H.toBelow⟩
set_option maxHeartbeats 4000000 in
theorem rload14_l (t : Ti) (lo hi tint : BitVec 8) (hs : Bool) (w : World) : Calls Try.prog 11 #[.agg (tiC t), .agg #[.int .u8 (w8 lo), .bool true], .agg #[.int .u8 (w8 hi), .bool hs], .int .u8 (w8 tint), .bool false] w fun e w' => e = .returned (.agg (tiC (loadT t lo hi tint true))) ∧ Below w.heap.size w w' := by
  have HZ := Lib.hid alloc_ti
  have QL := Lib.hid (fun n v wr => rlower14_ct n v wr)
  have QE := Lib.hid (fun b wr => reight14_ct b wr)
  have e1 := tint_m1 tint
  have e2 := tint_m2 tint
  have e3 := w8_small tint
  have e4 := tint_m3 tint
  have l0 := (w8_lt lo).1
  have l1 := (w8_lt lo).2
  have h0 := (w8_lt hi).1
  have h1 := (w8_lt hi).2
  unfold loadT
  generalize tint.getLsbD 0 = p0 at *
  generalize tint.getLsbD 1 = p1 at *
  have H := Mem.start w
  have M1 : True := trivial
  have M2 : True := trivial
  have M3 : True := trivial
  have M4 : True := trivial
  go_enter Try.func11, Try.ntmps11
  go_wp2_with (first | (clear M1; refine wpList_mboxA rfl _ _ rfl H _ rfl ?_; clear H; intro Rc w1 _ H) | (clear M2; refine wpList_mboxA rfl _ _ rfl H _ rfl ?_; clear H; intro Rl w1 _ H) | (clear M3; refine wpList_mboxA rfl _ _ rfl H _ rfl ?_; clear H; intro Rh w1 _ H) | (clear M4; refine wpList_mnew rfl _ rfl H _ HZ.out ?_; clear H; intro Rr w1 _ H) | fail)
  (try simp only [Act.put, List.setIfInBounds_toArray, List.set_cons_succ, List.set_cons_zero])
  (refine wp_region_tails_below 41 (by kernel_rfl) (by kernel_rfl) ?_); (simp only [List.take_succ_cons, List.take_zero, List.drop_succ_cons, List.drop_zero]); (repeat (first | (go_big_quiet_want; refine gate_qload _ _ rfl ?_; refine quiet_mload1 22 _ rfl _ _ rfl 3 H _ (.int .u16 _) rfl rfl (by decide +kernel) ?_; simp only [Act.put, List.setIfInBounds_toArray, List.set_cons_succ, List.set_cons_zero]; go_big_quiet_on) | (go_big_quiet_want; refine gate_qload _ _ rfl ?_; refine quiet_mload1 5 _ rfl _ _ rfl 2 H _ (.int .u8 _) rfl rfl (by decide +kernel) ?_; simp only [Act.put, List.setIfInBounds_toArray, List.set_cons_succ, List.set_cons_zero]; go_big_quiet_on) | (go_big_quiet_want; refine gate_qload _ _ rfl ?_; refine quiet_mload1 5 _ rfl _ _ rfl 1 H _ (.int .u8 _) rfl rfl (by decide +kernel) ?_; simp only [Act.put, List.setIfInBounds_toArray, List.set_cons_succ, List.set_cons_zero]; go_big_quiet_on) | (go_big_quiet_want; refine gate_qload _ _ rfl ?_; refine quiet_mload1 4 _ rfl _ _ rfl 2 H _ (.bool _) rfl rfl (by decide +kernel) ?_; simp only [Act.put, List.setIfInBounds_toArray, List.set_cons_succ, List.set_cons_zero]; go_big_quiet_on) | (go_big_quiet_want; refine gate_qload _ _ rfl ?_; refine quiet_mload1 4 _ rfl _ _ rfl 1 H _ (.bool _) rfl rfl (by decide +kernel) ?_; simp only [Act.put, List.setIfInBounds_toArray, List.set_cons_succ, List.set_cons_zero]; go_big_quiet_on) | go_big_quiet_step ((first | (go_at_call 22; (with_reducible exact Calls.regrown_of (QL.out _ _ _))) | (go_at_call 23; (with_reducible exact Calls.regrown_of (QE.out _ _))) | fail)))); (refine wpQuiet_nil ?_); intro _ hw'; obtain ⟨⟨dq, osq⟩, hw''⟩ := hw'; (subst hw''); replace H := H.next (below_regrown _ dq osq); generalize Go.Sort.grow (redrawn _ dq) osq = wq at *
  go_wp2_with (first | (refine gate_store _ _ _ rfl ?_; refine wpList_mstoreA rfl 24 _ _ rfl rfl _ rfl 0 H (tiC _) _ rfl rfl (by kernel_rfl) (by kernel_rfl) (by kernel_rfl) ?_; clear H; intro w1 H; simp only [List.set_cons_zero, List.set_cons_succ] at H) | fail)
  refine ret_mem1 rfl _ rfl 0 H _ rfl (by kernel_rfl) (by kernel_rfl) rfl ?_
  exact ⟨rfl, H.toBelow⟩
set_option maxHeartbeats 4000000 in
theorem rload14_h (t : Ti) (lo hi tint : BitVec 8) (hs : Bool) (w : World) : Calls Try.prog 11 #[.agg (tiC t), .agg #[.int .u8 (w8 lo), .bool false], .agg #[.int .u8 (w8 hi), .bool hs], .int .u8 (w8 tint), .bool false] w fun e w' => e = .returned (.agg (tiC (loadT t lo hi tint hs))) ∧ Below w.heap.size w w' := by
  have HZ := Lib.hid alloc_ti
  have QL := Lib.hid (fun n v wr => rlower14_ct n v wr)
  have QE := Lib.hid (fun b wr => reight14_ct b wr)
  have e1 := tint_m1 tint
  have e2 := tint_m2 tint
  have e3 := w8_small tint
  have e4 := tint_m3 tint
  have l0 := (w8_lt lo).1
  have l1 := (w8_lt lo).2
  have h0 := (w8_lt hi).1
  have h1 := (w8_lt hi).2
  unfold loadT
  generalize tint.getLsbD 0 = p0 at *
  generalize tint.getLsbD 1 = p1 at *
  have H := Mem.start w
  have M1 : True := trivial
  have M2 : True := trivial
  have M3 : True := trivial
  have M4 : True := trivial
  go_enter Try.func11, Try.ntmps11
  go_wp2_with (first | (clear M1; refine wpList_mboxA rfl _ _ rfl H _ rfl ?_; clear H; intro Rc w1 _ H) | (clear M2; refine wpList_mboxA rfl _ _ rfl H _ rfl ?_; clear H; intro Rl w1 _ H) | (clear M3; refine wpList_mboxA rfl _ _ rfl H _ rfl ?_; clear H; intro Rh w1 _ H) | (clear M4; refine wpList_mnew rfl _ rfl H _ HZ.out ?_; clear H; intro Rr w1 _ H) | fail)
  (try simp only [Act.put, List.setIfInBounds_toArray, List.set_cons_succ, List.set_cons_zero])
  (refine wp_region_tails_below 41 (by kernel_rfl) (by kernel_rfl) ?_); (simp only [List.take_succ_cons, List.take_zero, List.drop_succ_cons, List.drop_zero]); (repeat (first | (go_big_quiet_want; refine gate_qload _ _ rfl ?_; refine quiet_mload1 22 _ rfl _ _ rfl 3 H _ (.int .u16 _) rfl rfl (by decide +kernel) ?_; simp only [Act.put, List.setIfInBounds_toArray, List.set_cons_succ, List.set_cons_zero]; go_big_quiet_on) | (go_big_quiet_want; refine gate_qload _ _ rfl ?_; refine quiet_mload1 5 _ rfl _ _ rfl 2 H _ (.int .u8 _) rfl rfl (by decide +kernel) ?_; simp only [Act.put, List.setIfInBounds_toArray, List.set_cons_succ, List.set_cons_zero]; go_big_quiet_on) | (go_big_quiet_want; refine gate_qload _ _ rfl ?_; refine quiet_mload1 5 _ rfl _ _ rfl 1 H _ (.int .u8 _) rfl rfl (by decide +kernel) ?_; simp only [Act.put, List.setIfInBounds_toArray, List.set_cons_succ, List.set_cons_zero]; go_big_quiet_on) | (go_big_quiet_want; refine gate_qload _ _ rfl ?_; refine quiet_mload1 4 _ rfl _ _ rfl 2 H _ (.bool _) rfl rfl (by decide +kernel) ?_; simp only [Act.put, List.setIfInBounds_toArray, List.set_cons_succ, List.set_cons_zero]; go_big_quiet_on) | (go_big_quiet_want; refine gate_qload _ _ rfl ?_; refine quiet_mload1 4 _ rfl _ _ rfl 1 H _ (.bool _) rfl rfl (by decide +kernel) ?_; simp only [Act.put, List.setIfInBounds_toArray, List.set_cons_succ, List.set_cons_zero]; go_big_quiet_on) | go_big_quiet_step ((first | (go_at_call 22; (with_reducible exact Calls.regrown_of (QL.out _ _ _))) | (go_at_call 23; (with_reducible exact Calls.regrown_of (QE.out _ _))) | fail)))); (refine wpQuiet_nil ?_); intro _ hw'; obtain ⟨⟨dq, osq⟩, hw''⟩ := hw'; (subst hw''); replace H := H.next (below_regrown _ dq osq); generalize Go.Sort.grow (redrawn _ dq) osq = wq at *
  go_wp2_with (first | (refine gate_store _ _ _ rfl ?_; refine wpList_mstoreA rfl 24 _ _ rfl rfl _ rfl 0 H (tiC _) _ rfl rfl (by kernel_rfl) (by kernel_rfl) (by kernel_rfl) ?_; clear H; intro w1 H; simp only [List.set_cons_zero, List.set_cons_succ] at H) | fail)
  refine ret_mem1 rfl _ rfl 0 H _ rfl (by kernel_rfl) (by kernel_rfl) rfl ?_
  exact ⟨rfl, H.toBelow⟩
theorem rload14_ct (t : Ti) (lo hi tint : BitVec 8) (s ls hs : Bool) (w : World) : Calls Try.prog 11 #[.agg (tiC t), .agg #[.int .u8 (w8 lo), .bool ls], .agg #[.int .u8 (w8 hi), .bool hs], .int .u8 (w8 tint), .bool s] w fun e w' => e = .returned (.agg (tiC (loadT t lo hi tint (s || ls || hs)))) ∧ Below w.heap.size w w' := by
  cases s
  · cases ls
    · exact rload14_h t lo hi tint hs w
    · exact rload14_l t lo hi tint hs w
  · exact rload14_s t lo hi tint ls hs w
set_option maxHeartbeats 2000000 in
theorem rshift14_ct (t : Ti) (w : World) : Calls Try.prog 13 #[.agg (tiC t)] w fun e w' => e = .returned (.agg (tiC (shiftT t))) ∧ Below w.heap.size w w' := by
  have HZ := Lib.hid alloc_ti
  have H := Mem.start w
  have M1 : True := trivial
  have M2 : True := trivial
  go_enter Try.func13, Try.ntmps13
  go_wp2_with (first | (clear M1; refine wpList_mboxA rfl _ _ rfl H _ rfl ?_; clear H; intro Rc w1 _ H) | (clear M2; refine wpList_mnew rfl _ rfl H _ HZ.out ?_; clear H; intro Rr w1 _ H) | (refine gate_load _ _ rfl ?_; refine wpList_mload1 rfl 22 _ rfl _ _ rfl 1 H _ (.int .u16 _) rfl rfl (by decide +kernel) ?_) | (refine gate_store _ _ _ rfl ?_; refine wpList_mstoreA rfl 24 _ _ rfl rfl _ rfl 0 H (tiC _) _ rfl rfl (by kernel_rfl) (by kernel_rfl) (by kernel_rfl) ?_; clear H; intro w1 H; simp only [List.set_cons_zero, List.set_cons_succ] at H) | fail)
  refine ret_mem1 rfl _ rfl 0 H _ rfl (by kernel_rfl) (by kernel_rfl) rfl ?_
  exact ⟨by simp only [tiC, shiftT, IntKind.wrap_u16, w16_shl1], H.toBelow⟩
end Go.Proofs.Ytbgclhhhfldphaa
