/-
  The walk of TileComes. Over this seat's translation; no condition. (Written by gen_ti.py.)
-/
import Derived.Test.YtbgclhhhfldphaaTis
namespace Go.Proofs.Ytbgclhhhfldphaa
open Go.RowKit Go.Sort
set_option linter.unusedSimpArgs false
set_option linter.unusedVariables false
set_option maxRecDepth 20000

attribute [local irreducible] wpList
theorem want14 : ∀ (a b p q : Bool), bits .or .u8 (bits .or .u8 (b2i a) (b2i b * 2)) ((b2i p + 2 * b2i q) * 4) = b2i a + 2 * b2i b + 4 * b2i p + 8 * b2i q := by decide +kernel
theorem tint_three (v : BitVec 8) : bits .and .u8 (w8 v) 3 = b2i (v.getLsbD 0) + 2 * b2i (v.getLsbD 1) := by
  have h : ∀ v : BitVec 8, bits .and .u8 (w8 v) 3 = b2i (v.getLsbD 0) + 2 * b2i (v.getLsbD 1) := by decide +kernel
  exact h v
set_option maxHeartbeats 4000000 in
theorem tileComes_walk (q : Ta) (w : World) : Calls Try.prog 4 #[.agg (taC q)] w fun e w' => e = .returned (.bool true) ∧ Below w.heap.size w w' := by
  obtain ⟨t, lo, ls, hi, hs, tint, s, x⟩ := q
  have K1 := fun wr => tload_ct t lo hi tint s ls hs wr
  have E0 : ∀ k : Nat, k < 8 → dotT (shlT (loadT t lo hi tint (s || ls || hs)) (8 + k)) 0 = b2i (lo.getLsbD (7 - k)) + 2 * b2i (hi.getLsbD (7 - k)) + 4 * b2i (tint.getLsbD 0) + 8 * b2i (tint.getLsbD 1) := fun k hk => by
    rw [dot_shl _ _ _ (by omega)]
    exact dot_load t lo hi tint _ k hk
  have E1 : ∀ k : Nat, k < 8 → secT (shlT (loadT t lo hi tint (s || ls || hs)) (8 + k)) 0 = (s || ls || hs) := fun k hk => by
    rw [sec_shl _ _ _ (by omega)]
    exact sec_load t lo hi tint _ k hk
  have E2 := shlT_16 (loadT t lo hi tint (s || ls || hs))
  have E3 := tint_three tint
  generalize loadT t lo hi tint (s || ls || hs) = u at *
  generalize tint.getLsbD 0 = p0 at *
  generalize tint.getLsbD 1 = p1 at *
  have K2 := fun wr => tshifted_ct u 8 (by decide) (by decide) wr
  have Q1 := Lib.hid K1
  clear K1
  have Q2 := Lib.hid K2
  clear K2
  have QW := Lib.hid (fun wr => awake14_ct wr)
  have QS := Lib.hid (fun t wr => tshift_ct t wr)
  have HZ := Lib.hid alloc_ti
  have E0 := Lib.hid E0
  have E1 := Lib.hid E1
  have H := Mem.start w
  have M1 : True := trivial
  have M2 : True := trivial
  go_enter Try.func4, Try.ntmps4
  go_wp2_with (first | (clear M1; refine wpList_mboxA rfl _ _ rfl H _ rfl ?_; clear H; intro Rq w1 _ H) | (refine gate_load _ _ rfl ?_; refine wpList_mload rfl 24 _ rfl _ _ rfl 0 H _ (tiC _) rfl (by decide +kernel) (by kernel_rfl) (ta_tile _) ?_) | (refine gate_load _ _ rfl ?_; refine wpList_mload rfl 26 _ rfl _ _ rfl 0 H _ #[.int .u8 _, .bool _] rfl (by decide +kernel) (by kernel_rfl) (ta_lo _) ?_) | (refine gate_load _ _ rfl ?_; refine wpList_mload rfl 26 _ rfl _ _ rfl 0 H _ #[.int .u8 _, .bool _] rfl (by decide +kernel) (by kernel_rfl) (ta_hi _) ?_) | (refine gate_load _ _ rfl ?_; refine wpList_mload1 rfl 5 _ rfl _ _ rfl 0 H _ (.int .u8 _) rfl rfl (by decide +kernel) ?_) | (refine gate_load _ _ rfl ?_; refine wpList_mload1 rfl 4 _ rfl _ _ rfl 0 H _ (.bool _) rfl rfl (by decide +kernel) ?_) | (go_at_call 10; (first | (with_reducible refine (Q1.out _).mono ?_)); rintro e w2 ⟨rfl, hB⟩; replace H := H.next hB; clear hB) | (go_at_call 18; (first | (with_reducible refine (Q2.out _).mono ?_)); rintro e w2 ⟨rfl, hB⟩; replace H := H.next hB; clear hB) | (clear M2; refine wpList_mnew rfl _ rfl H _ HZ.out ?_; clear H; intro Rr w1 _ H) | (refine gate_store _ _ _ rfl ?_; refine wpList_mstoreA rfl 24 _ _ rfl rfl _ rfl 0 H (tiC _) _ rfl rfl (by kernel_rfl) (by kernel_rfl) (by kernel_rfl) ?_; clear H; intro w1 H; simp only [List.set_cons_zero, List.set_cons_succ] at H) | fail)
  go_loopw [4] (fun i wr => ∃ k : Nat, k ≤ 8 ∧ i = .int .i64 k ∧ Mem w.heap.size [] w wr [(Rr, tiC (shlT u (8 + k))), (Rq, taC ⟨t, lo, ls, hi, hs, tint, s, x⟩)]) (fun i _ => 8 - (intOf i).toNat)
  case atStart => exact ⟨0, Nat.zero_le _, rfl, H⟩
  case round =>
    clear H
    obtain ⟨k, hk, rfl, H⟩ := hrel
    by_cases hlt : k < 8
    · have V0 := E0.out k hlt
      have V1 := E1.out k hlt
      have K3 := fun wr => tdoti_ct (shlT u (8 + k)) 0 (by decide) (by decide) wr
      rw [show ((0 : Int) % 8).toNat = 0 from rfl, V0, V1] at K3
      have hS := shlT_next u (8 + k)
      have hn : (7 - (k : Int)).toNat = 7 - k := by omega
      have B1 := bit8 lo (7 - k)
      have B2 := bit8 hi (7 - k)
      generalize 7 - k = n at *
      have W0 := want14 (lo.getLsbD n) (hi.getLsbD n) p0 p1
      generalize lo.getLsbD n = a at *
      generalize hi.getLsbD n = b at *
      have a2 := b2i_lt a
      have b2 := b2i_lt b
      have c2 := b2i_lt p0
      have d2 := b2i_lt p1
      have Q3 := Lib.hid K3
      have HS := Lib.hid (show shiftT (shlT u (8 + k)) = shlT u (8 + (k + 1)) from hS)
      clear K3 V0 V1 hS
      generalize shlT u (8 + k) = y at *
      go_wp2_with (first | (refine gate_load _ _ rfl ?_; refine wpList_mloadA rfl 24 _ rfl _ rfl 0 H (tiC _) rfl (by decide +kernel) (by kernel_rfl) ?_) | (go_at_call 8; (first | (with_reducible refine (Q3.out _).mono ?_)); rintro e w2 ⟨rfl, hB⟩; replace H := H.next hB; clear hB) | fail)
      (try simp only [Act.put, List.setIfInBounds_toArray, List.set_cons_succ, List.set_cons_zero])
      (refine wp_region_quiet_below (by kernel_rfl) (by kernel_rfl) ?_); (repeat (first | (go_big_quiet_want; refine gate_qload _ _ rfl ?_; refine quiet_mload1 5 _ rfl _ _ rfl 1 H _ (.int .u8 _) rfl rfl (by decide +kernel) ?_; simp only [Act.put, List.setIfInBounds_toArray, List.set_cons_succ, List.set_cons_zero]; go_big_quiet_on) | go_big_quiet_step ((first | fail | fail)))); (refine wpQuiet_nil ?_); intro _ hw'; obtain ⟨⟨dq, osq⟩, hw''⟩ := hw'; (subst hw''); replace H := H.next (below_regrown _ dq osq); generalize Go.Sort.grow (redrawn _ dq) osq = wq at *
      rcases s with _ | _ <;> rcases ls with _ | _ <;> rcases hs with _ | _
      all_goals
        go_wp2_with (first | (refine gate_load _ _ rfl ?_; refine wpList_mload1 rfl 4 _ rfl _ _ rfl 1 H _ (.bool _) rfl rfl (by decide +kernel) ?_) | (refine gate_load _ _ rfl ?_; refine wpList_mloadA rfl 24 _ rfl _ rfl 0 H (tiC _) rfl (by decide +kernel) (by kernel_rfl) ?_) | (go_at_call 12; (with_reducible refine (QS.out _ _).mono ?_); rintro e w2 ⟨rfl, hB⟩; replace H := H.next hB; clear hB) | (refine gate_store _ _ _ rfl ?_; refine wpList_mstoreA rfl 24 _ _ rfl rfl _ rfl 0 H (tiC _) _ rfl rfl (by kernel_rfl) (by kernel_rfl) (by kernel_rfl) ?_; clear H; intro w1 H; simp only [List.set_cons_zero, List.set_cons_succ] at H) | fail)
        go_roundw
        case rel => exact ⟨k + 1, by omega, by go_num, by rw [← HS.out]; exact H⟩
        case measure => simp [intOf]; omega
    · obtain rfl : k = 8 := by omega
      replace H : Mem w.heap.size [] w wr [(Rr, tiC ti0), (Rq, taC ⟨t, lo, ls, hi, hs, tint, s, x⟩)] := by rw [← E2]; exact H
      go_wp2_with (first | (refine gate_load _ _ rfl ?_; refine wpList_mloadA rfl 24 _ rfl _ rfl 0 H (tiC _) rfl (by decide +kernel) (by kernel_rfl) ?_) | (refine gate_tbin .eql 24 _ _ _ rfl ?_; refine wpList_tbin rfl .eql 24 _ _ _ rfl (.agg (tiC ti0)) (.agg (tiC ti0)) _ rfl rfl (fun w => ti_eqlG _ _ _ w) ?_) | (go_at_call 17; (with_reducible refine (QW.out _).mono ?_); rintro e w2 ⟨rfl, hB⟩; replace H := H.next hB; clear hB) | fail)
      go_ret
      exact ⟨rfl, H.toBelow⟩
end Go.Proofs.Ytbgclhhhfldphaa
