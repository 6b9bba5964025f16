/-
  Package sprite's dotOf, Dot and Any; numbers are of their kinds. Over this seat's translation; no condition. (Written by gen_sp.py.)
-/
import Derived.Test.YtphnpahjofacfaaSph
import Derived.Test.YtphnpahjofacfaaSpo
namespace Go.Proofs.Ytphnpahjofacfaa
open Go.RowKit Go.Sort
set_option linter.unusedSimpArgs false
set_option linter.unusedVariables false
set_option maxRecDepth 20000

theorem dot_raw (lo hi : BitVec 8) (m : Nat) : bits .or .u8 (bits .and .u8 (w8 lo / 2 ^ m) 1) (bits .and .u8 (w8 hi / 2 ^ m) 1 * 2 % 256) = b2i (lo.getLsbD m) + 2 * b2i (hi.getLsbD m) := by
  rw [bit8, bit8]
  cases lo.getLsbD m <;> cases hi.getLsbD m <;> decide
theorem un_at {l : List Un} {k : Nat} (h : k < l.length) : l[k]? = some (unAt l k) := by
  unfold unAt
  rw [List.getD_eq_getElem?_getD, List.getElem?_eq_getElem h]
  rfl
theorem drop_un {l : List Un} {k : Nat} (h : k < l.length) : l.drop k = unAt l k :: l.drop (k + 1) := by
  have := un_at h
  rw [List.drop_eq_getElem_cons h]
  congr 1
  rw [List.getElem?_eq_getElem h] at this
  exact Option.some.inj this
theorem seen_no {l : List Un} {x : Int} {k : Nat} (h : k < l.length) (hd : dotX (unAt l k) x = 0) : seenU (l.drop k) x = seenU (l.drop (k + 1)) x := by
  rw [drop_un h, seenU, if_pos hd]
theorem seen_yes {l : List Un} {x : Int} {k : Nat} (h : k < l.length) (hd : dotX (unAt l k) x ≠ 0) : seenU (l.drop k) x = (dotX (unAt l k) x + 4 * (w8 (unAt l k).tint % 4), (unAt l k).bh, (unAt l k).ze) := by
  rw [drop_un h, seenU, if_neg hd]
theorem anyU_no {l : List Un} {k : Nat} (h : k < l.length) (hd : (unAt l k).s = false) : anyU (l.drop k) = anyU (l.drop (k + 1)) := by
  rw [drop_un h, anyU, hd, Bool.false_or]
theorem anyU_yes {l : List Un} {k : Nat} (h : k < l.length) (hd : (unAt l k).s = true) : anyU (l.drop k) = true := by
  rw [drop_un h, anyU, hd, Bool.true_or]
attribute [local irreducible] wpList
set_option maxHeartbeats 2000000 in
theorem dotof_ct (u : Un) (x : Int) (b0 : -9223372036854775808 ≤ x) (b1 : x < 9223372036854775808) (w : World) : Calls Try.prog 34 #[.agg (unC u), .int .i64 x] w fun e w' => e = .returned (.int .u8 (dotX u x)) ∧ Below w.heap.size w w' := by
  have hx := w8_lt u.x
  have H := Mem.start w
  by_cases h : 0 ≤ x - w8 u.x ∧ x - w8 u.x < 8
  · have e : dotX u x = dotK u (x - w8 u.x).toNat := by unfold dotX; rw [if_pos h]
    rw [e]
    obtain ⟨h0, h1⟩ := h
    have e7 : (7 - (x - w8 u.x)).toNat = 7 - (x - w8 u.x).toNat := by omega
    have hR := dot_raw u.lo u.hi (7 - (x - w8 u.x).toNat)
    have HR := Lib.hid hR
    clear hR e
    go_enter Try.func34, Try.ntmps34
    go_wp2_with (first | (refine wpList_mboxA rfl _ _ rfl H (unC u) rfl ?_; clear H; intro Ru w1 _ H) | (refine gate_load _ _ rfl ?_; refine wpList_mload1 rfl 5 _ rfl _ _ rfl 0 H _ (.int .u8 _) rfl rfl (by decide +kernel) ?_) | fail)
    (try simp only [Act.put, List.setIfInBounds_toArray, List.set_cons_succ, List.set_cons_zero])
    (refine wp_region_quiet_below (by kernel_rfl) (by kernel_rfl) ?_); (repeat (first | (go_big_quiet_want; refine gate_qload _ _ rfl ?_; refine quiet_mload1 5 _ rfl _ _ rfl 0 H _ (.int .u8 _) rfl rfl (by decide +kernel) ?_; simp only [Act.put, List.setIfInBounds_toArray, List.set_cons_succ, List.set_cons_zero]; go_big_quiet_on) | go_big_quiet_step ((first | fail)))); (refine wpQuiet_nil ?_); intro _ hw'; obtain ⟨⟨dq, osq⟩, hw''⟩ := hw'; (subst hw''); replace H := H.next (below_regrown _ dq osq); generalize Go.Sort.grow (redrawn _ dq) osq = wq at *
    go_wp2
    go_ret
    refine ⟨?_, H.toBelow⟩
    show Ending.returned (.int .u8 _) = _
    rw [HR.out]
    rfl
  · have e : dotX u x = 0 := by unfold dotX; rw [if_neg h]
    rw [e]
    clear e
    by_cases hv : x - w8 u.x < -9223372036854775808
    · have hz : wrap64 (x - w8 u.x) = x - w8 u.x + 18446744073709551616 := by unfold wrap64; omega
      obtain ⟨z, hz2⟩ : ∃ z, wrap64 (x - w8 u.x) = z := ⟨_, rfl⟩
      have z0 : 7 < z := by omega
      clear hz h
      go_enter Try.func34, Try.ntmps34
      go_wp2_with (first | (refine wpList_mboxA rfl _ _ rfl H (unC u) rfl ?_; clear H; intro Ru w1 _ H) | (refine gate_load _ _ rfl ?_; refine wpList_mload1 rfl 5 _ rfl _ _ rfl 0 H _ (.int .u8 _) rfl rfl (by decide +kernel) ?_) | fail)
      go_ret
      exact ⟨rfl, H.toBelow⟩
    · by_cases hn : x - w8 u.x < 0
      · clear h
        go_enter Try.func34, Try.ntmps34
        go_wp2_with (first | (refine wpList_mboxA rfl _ _ rfl H (unC u) rfl ?_; clear H; intro Ru w1 _ H) | (refine gate_load _ _ rfl ?_; refine wpList_mload1 rfl 5 _ rfl _ _ rfl 0 H _ (.int .u8 _) rfl rfl (by decide +kernel) ?_) | fail)
        go_ret
        exact ⟨rfl, H.toBelow⟩
      · have h8 : 7 < x - w8 u.x := by omega
        clear h
        go_enter Try.func34, Try.ntmps34
        go_wp2_with (first | (refine wpList_mboxA rfl _ _ rfl H (unC u) rfl ?_; clear H; intro Ru w1 _ H) | (refine gate_load _ _ rfl ?_; refine wpList_mload1 rfl 5 _ rfl _ _ rfl 0 H _ (.int .u8 _) rfl rfl (by decide +kernel) ?_) | fail)
        go_ret
        exact ⟨rfl, H.toBelow⟩
set_option maxHeartbeats 4000000 in
theorem sdot_ct (sv : Value) (l : List Un) (x : Int) (b0 : -9223372036854775808 ≤ x) (b1 : x < 9223372036854775808) (w : World) (hr : RdU w sv l) : Calls Try.prog 18 #[sv, .int .i64 x] w fun e w' => e = .returned (.tuple #[.int .u8 (seenU l x).1, .bool (seenU l x).2.1, .bool (seenU l x).2.2]) ∧ Below w.heap.size w w' := by
  have HZ := Lib.hid alloc_unit
  have QD := Lib.hid (fun u wr => dotof_ct u x b0 b1 wr)
  obtain ⟨a, cap, rfl, hcap, hn, hr⟩ := hr
  unfold maxLen at hn
  have H := Mem.start w
  rcases hr with rfl | ⟨b, off, rfl, HLT, hc⟩
  · go_enter Try.func18, Try.ntmps18
    go_wp2
    go_loopw [8, 9, 12] (fun _ _ i wr => i = .int .i64 0 ∧ wr = w) (fun _ _ _ _ => 0)
    case atStart => exact ⟨rfl, rfl⟩
    case round =>
      obtain ⟨rfl, rfl⟩ := hrel
      go_wp2
      (try simp only [Exit.inBlock, Exit.then]); refine bodyPost_ret (sp_tmp3 rfl _ _ _) rfl ?_
      exact ⟨rfl, Below.refl _ _⟩
  · have HCC := Lib.hid hc
    clear hc
    go_enter Try.func18, Try.ntmps18
    go_wp2
    go_loopw [8, 9, 12] (fun _ _ i wr => ∃ k : Nat, k ≤ l.length ∧ i = .int .i64 k ∧ Hid (seenU l x = seenU (l.drop k) x) ∧ Mem w.heap.size [] w wr []) (fun _ _ i _ => l.length - (intOf i).toNat)
    case atStart => exact ⟨0, Nat.zero_le _, rfl, by rw [List.drop_zero]; exact Lib.hid rfl, H⟩
    case round =>
      clear H
      obtain ⟨k, hk, rfl, hS, H⟩ := hrel
      by_cases hlt : k < l.length
      · have HC : Hid (Cells w b (off + k * 7) (unC (unAt l k))) := fun j v hj => HCC.out k hlt j v (by simpa [unC] using hj)
        by_cases hd : dotX (unAt l k) x = 0
        · have HS2 := Lib.hid (hS.out.trans (seen_no hlt hd))
          generalize unAt l k = u at *
          have QD1 := QD.out u
          rw [hd] at QD1
          clear hS hd
          go_wp2_with (first | (refine gate_load _ _ rfl ?_; refine wpList_xload rfl 36 _ rfl _ _ rfl H (unC _) HC.out HLT (by decide +kernel) (by kernel_rfl) ?_) | (refine wpList_mnew rfl _ rfl H _ HZ.out ?_; clear H; intro Ru w1 _ H) | (refine gate_store _ _ _ rfl ?_; refine wpList_mstoreA rfl 36 _ _ rfl rfl _ rfl 0 H (unC _) _ rfl rfl (by kernel_rfl) (by kernel_rfl) (by kernel_rfl) ?_; clear H; intro w1 H; simp only [List.set_cons_zero, List.set_cons_succ] at H) | (refine gate_load _ _ rfl ?_; refine wpList_mloadA rfl 36 _ rfl _ rfl 0 H (unC _) rfl (by decide +kernel) (by kernel_rfl) ?_) | (go_at_call 34; (with_reducible refine (QD1 _).mono ?_); rintro e w2 ⟨rfl, hB⟩; replace H := H.next hB; clear hB) | fail)
          go_roundw
          case rel => exact ⟨k + 1, by omega, by go_num, HS2.out, H.sub (List.Sublist.cons _ (List.Sublist.refl _))⟩
          case measure => simp [intOf]; omega
        · have HS2 := Lib.hid (hS.out.trans (seen_yes hlt hd))
          generalize unAt l k = u at *
          have QD1 := QD.out u
          have hv := dotX_lt u x
          generalize dotX u x = v at *
          have ht := w8_lt u.tint
          have h3 := hand3 (w8 u.tint) ht.1 ht.2
          have hne : (v != 0) = true := by simpa using hd
          clear hS
          go_wp2_with (first | (refine gate_load _ _ rfl ?_; refine wpList_xload rfl 36 _ rfl _ _ rfl H (unC _) HC.out HLT (by decide +kernel) (by kernel_rfl) ?_) | (refine wpList_mnew rfl _ rfl H _ HZ.out ?_; clear H; intro Ru w1 _ H) | (refine gate_store _ _ _ rfl ?_; refine wpList_mstoreA rfl 36 _ _ rfl rfl _ rfl 0 H (unC _) _ rfl rfl (by kernel_rfl) (by kernel_rfl) (by kernel_rfl) ?_; clear H; intro w1 H; simp only [List.set_cons_zero, List.set_cons_succ] at H) | (refine gate_load _ _ rfl ?_; refine wpList_mloadA rfl 36 _ rfl _ rfl 0 H (unC _) rfl (by decide +kernel) (by kernel_rfl) ?_) | (go_at_call 34; (with_reducible refine (QD1 _).mono ?_); rintro e w2 ⟨rfl, hB⟩; replace H := H.next hB; clear hB) | fail)
          (try simp only [Act.put, List.setIfInBounds_toArray, List.set_cons_succ, List.set_cons_zero])
          (refine wp_region_quiet_below (by kernel_rfl) (by kernel_rfl) ?_); (repeat (first | (go_big_quiet_want; refine gate_qload _ _ rfl ?_; refine quiet_mload1 5 _ rfl _ _ rfl 0 H _ (.int .u8 _) rfl rfl (by decide +kernel) ?_; simp only [Act.put, List.setIfInBounds_toArray, List.set_cons_succ, List.set_cons_zero]; go_big_quiet_on) | (go_big_quiet_want; refine gate_qload _ _ rfl ?_; refine quiet_mload1 4 _ rfl _ _ rfl 0 H _ (.bool _) rfl rfl (by decide +kernel) ?_; simp only [Act.put, List.setIfInBounds_toArray, List.set_cons_succ, List.set_cons_zero]; go_big_quiet_on) | go_big_quiet_step ((first | fail)))); (refine wpQuiet_nil ?_); intro _ hw'; obtain ⟨⟨dq, osq⟩, hw''⟩ := hw'; (subst hw''); replace H := H.next (below_regrown _ dq osq); generalize Go.Sort.grow (redrawn _ dq) osq = wq at *
          go_wp2
          (try simp only [Exit.inBlock, Exit.then]); refine bodyPost_ret (sp_tmp3 rfl _ _ _) rfl ?_
          refine ⟨?_, H.toBelow⟩
          rw [HS2.out]
          show Ending.returned (.tuple #[.int .u8 _, _, _]) = _
          congr 3
      · obtain rfl : k = l.length := by omega
        have HS2 := Lib.hid hS.out
        rw [List.drop_length] at HS2
        clear hS
        go_wp2
        (try simp only [Exit.inBlock, Exit.then]); refine bodyPost_ret (sp_tmp3 rfl _ _ _) rfl ?_
        exact ⟨by rw [HS2.out]; rfl, H.toBelow⟩
set_option maxHeartbeats 4000000 in
theorem sanyu_ct (sv : Value) (l : List Un) (w : World) (hr : RdU w sv l) : Calls Try.prog 20 #[sv] w fun e w' => e = .returned (.bool (anyU l)) ∧ Below w.heap.size w w' := by
  have HZ := Lib.hid alloc_unit
  obtain ⟨a, cap, rfl, hcap, hn, hr⟩ := hr
  unfold maxLen at hn
  have H := Mem.start w
  rcases hr with rfl | ⟨b, off, rfl, HLT, hc⟩
  · go_enter Try.func20, Try.ntmps20
    go_wp2
    go_loopw [4, 7] (fun _ i wr => i = .int .i64 0 ∧ wr = w) (fun _ _ _ => 0)
    case atStart => exact ⟨rfl, rfl⟩
    case round =>
      obtain ⟨rfl, rfl⟩ := hrel
      go_wp2
      go_ret
      exact ⟨rfl, Below.refl _ _⟩
  · have HCC := Lib.hid hc
    clear hc
    go_enter Try.func20, Try.ntmps20
    go_wp2
    go_loopw [4, 7] (fun _ i wr => ∃ k : Nat, k ≤ l.length ∧ i = .int .i64 k ∧ Hid (anyU l = anyU (l.drop k)) ∧ Mem w.heap.size [] w wr []) (fun _ i _ => l.length - (intOf i).toNat)
    case atStart => exact ⟨0, Nat.zero_le _, rfl, by rw [List.drop_zero]; exact Lib.hid rfl, H⟩
    case round =>
      clear H
      obtain ⟨k, hk, rfl, hS, H⟩ := hrel
      by_cases hlt : k < l.length
      · have HC : Hid (Cells w b (off + k * 7) (unC (unAt l k))) := fun j v hj => HCC.out k hlt j v (by simpa [unC] using hj)
        cases hd : (unAt l k).s
        · have HS2 := Lib.hid (hS.out.trans (anyU_no hlt hd))
          generalize unAt l k = u at *
          obtain ⟨ux, ulo, uhi, ut, ub, uz, us⟩ := u
          dsimp only at hd
          subst hd
          clear hS
          go_wp2_with (first | (refine gate_load _ _ rfl ?_; refine wpList_xload rfl 36 _ rfl _ _ rfl H (unC _) HC.out HLT (by decide +kernel) (by kernel_rfl) ?_) | (refine wpList_mnew rfl _ rfl H _ HZ.out ?_; clear H; intro Ru w1 _ H) | (refine gate_store _ _ _ rfl ?_; refine wpList_mstoreA rfl 36 _ _ rfl rfl _ rfl 0 H (unC _) _ rfl rfl (by kernel_rfl) (by kernel_rfl) (by kernel_rfl) ?_; clear H; intro w1 H; simp only [List.set_cons_zero, List.set_cons_succ] at H) | (refine gate_load _ _ rfl ?_; refine wpList_mload1 rfl 4 _ rfl _ _ rfl 0 H _ (.bool _) rfl rfl (by decide +kernel) ?_) | fail)
          go_roundw
          case rel => exact ⟨k + 1, by omega, by go_num, HS2.out, H.sub (List.Sublist.cons _ (List.Sublist.refl _))⟩
          case measure => simp [intOf]; omega
        · have HS2 := Lib.hid (hS.out.trans (anyU_yes hlt hd))
          generalize unAt l k = u at *
          obtain ⟨ux, ulo, uhi, ut, ub, uz, us⟩ := u
          dsimp only at hd
          subst hd
          clear hS
          go_wp2_with (first | (refine gate_load _ _ rfl ?_; refine wpList_xload rfl 36 _ rfl _ _ rfl H (unC _) HC.out HLT (by decide +kernel) (by kernel_rfl) ?_) | (refine wpList_mnew rfl _ rfl H _ HZ.out ?_; clear H; intro Ru w1 _ H) | (refine gate_store _ _ _ rfl ?_; refine wpList_mstoreA rfl 36 _ _ rfl rfl _ rfl 0 H (unC _) _ rfl rfl (by kernel_rfl) (by kernel_rfl) (by kernel_rfl) ?_; clear H; intro w1 H; simp only [List.set_cons_zero, List.set_cons_succ] at H) | (refine gate_load _ _ rfl ?_; refine wpList_mload1 rfl 4 _ rfl _ _ rfl 0 H _ (.bool _) rfl rfl (by decide +kernel) ?_) | fail)
          go_ret
          exact ⟨by rw [HS2.out]; rfl, H.toBelow⟩
      · obtain rfl : k = l.length := by omega
        have HS2 := Lib.hid hS.out
        rw [List.drop_length] at HS2
        clear hS
        go_wp2
        go_ret
        exact ⟨by rw [HS2.out]; rfl, H.toBelow⟩
end Go.Proofs.Ytphnpahjofacfaa
