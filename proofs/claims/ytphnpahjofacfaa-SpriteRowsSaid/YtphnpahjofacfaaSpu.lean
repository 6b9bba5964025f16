/-
  The document's Dot and Any; numbers are of their kinds. Over this seat's translation; no condition. (Written by gen_sp.py.)
-/
import Derived.Test.YtphnpahjofacfaaSpi
namespace Go.Proofs.Ytphnpahjofacfaa
open Go.RowKit Go.Sort
set_option linter.unusedSimpArgs false
set_option linter.unusedVariables false
set_option maxRecDepth 20000

theorem dot_rawR (lo hi : BitVec 8) (m : Nat) : w8 lo / 2 ^ m % 2 + 2 * (w8 hi / 2 ^ m % 2) = b2i (lo.getLsbD m) + 2 * b2i (hi.getLsbD m) := by rw [w8_bit, w8_bit]
attribute [local irreducible] wpList
set_option maxHeartbeats 4000000 in
theorem rdot_ct (sv : Value) (l : List Un) (x : Int) (b0 : -9223372036854775808 ≤ x) (b1 : x < 9223372036854775808) (w : World) (hr : RdU w sv l) : Calls Try.prog 19 #[sv, .int .i64 x] w fun e w' => e = .returned (.tuple #[.int .u8 (seenU l x).1, .bool (seenU l x).2.1, .bool (seenU l x).2.2]) ∧ Below w.heap.size w w' := by
  have HZ := Lib.hid alloc_unit
  obtain ⟨a, cap, rfl, hcap, hn, hr⟩ := hr
  unfold maxLen at hn
  have H := Mem.start w
  rcases hr with rfl | ⟨b, off, rfl, HLT, hc⟩
  · go_enter Try.func19, Try.ntmps19
    go_wp2
    go_loopw [7, 8, 9, 10] (fun i _ _ _ wr => i = .int .i64 0 ∧ wr = w) (fun _ _ _ _ _ => 0)
    case atStart => exact ⟨rfl, rfl⟩
    case round =>
      obtain ⟨rfl, rfl⟩ := hrel
      go_wp2
      (try simp only [Exit.inBlock, Exit.then]); refine bodyPost_ret (sp_tmp3 rfl _ _ _) rfl ?_
      exact ⟨rfl, Below.refl _ _⟩
  · have HCC := Lib.hid hc
    clear hc
    go_enter Try.func19, Try.ntmps19
    go_wp2
    go_loopw [7, 8, 9, 10] (fun i _ _ _ wr => ∃ k : Nat, k ≤ l.length ∧ i = .int .i64 k ∧ Hid (seenU l x = seenU (l.drop k) x) ∧ Mem w.heap.size [] w wr []) (fun i _ _ _ _ => l.length - (intOf i).toNat)
    case atStart => exact ⟨0, Nat.zero_le _, rfl, by rw [List.drop_zero]; exact Lib.hid rfl, H⟩
    case round =>
      clear H
      obtain ⟨k, hk, rfl, hS, H⟩ := hrel
      by_cases hlt : k < l.length
      · have HC : Hid (Cells w b (off + k * 7) (unC (unAt l k))) := fun j v hj => HCC.out k hlt j v (by simpa [unC] using hj)
        have hno := fun h => hS.out.trans (seen_no (x := x) hlt h)
        have hye := fun h => hS.out.trans (seen_yes (x := x) hlt h)
        generalize unAt l k = u at *
        have HNO := Lib.hid hno
        have HYE := Lib.hid hye
        clear hS hno hye
        have hx := w8_lt u.x
        have hw7 : wrap64 (w8 u.x + 7) = w8 u.x + 7 := by unfold wrap64; omega
        by_cases ha : x < w8 u.x
        · have hd : dotX u x = 0 := by unfold dotX; rw [if_neg (by omega)]
          have HS2 := Lib.hid (HNO.out hd)
          have hd1 : decide (x < w8 u.x) = true := decide_eq_true ha
          clear hd HNO HYE
          go_wp2_with (first | (refine gate_load _ _ rfl ?_; refine wpList_xload rfl 36 _ rfl _ _ rfl H (unC _) HC.out HLT (by decide +kernel) (by kernel_rfl) ?_) | (refine wpList_mnew rfl _ rfl H _ HZ.out ?_; clear H; intro Ru w1 _ H) | (refine gate_store _ _ _ rfl ?_; refine wpList_mstoreA rfl 36 _ _ rfl rfl _ rfl 0 H (unC _) _ rfl rfl (by kernel_rfl) (by kernel_rfl) (by kernel_rfl) ?_; clear H; intro w1 H; simp only [List.set_cons_zero, List.set_cons_succ] at H) | (refine gate_load _ _ rfl ?_; refine wpList_mload1 rfl 5 _ rfl _ _ rfl 0 H _ (.int .u8 _) rfl rfl (by decide +kernel) ?_) | fail)
          go_roundw
          case rel => exact ⟨k + 1, by omega, by go_num, HS2.out, H.sub (List.Sublist.cons _ (List.Sublist.refl _))⟩
          case measure => simp [intOf]; omega
        · have hd1 : decide (x < w8 u.x) = false := decide_eq_false ha
          by_cases hb : w8 u.x + 7 < x
          · have hd : dotX u x = 0 := by unfold dotX; rw [if_neg (by omega)]
            have HS2 := Lib.hid (HNO.out hd)
            have hd2 : decide (w8 u.x + 7 < x) = true := decide_eq_true hb
            clear hd HNO HYE
            go_wp2_with (first | (refine gate_load _ _ rfl ?_; refine wpList_xload rfl 36 _ rfl _ _ rfl H (unC _) HC.out HLT (by decide +kernel) (by kernel_rfl) ?_) | (refine wpList_mnew rfl _ rfl H _ HZ.out ?_; clear H; intro Ru w1 _ H) | (refine gate_store _ _ _ rfl ?_; refine wpList_mstoreA rfl 36 _ _ rfl rfl _ rfl 0 H (unC _) _ rfl rfl (by kernel_rfl) (by kernel_rfl) (by kernel_rfl) ?_; clear H; intro w1 H; simp only [List.set_cons_zero, List.set_cons_succ] at H) | (refine gate_load _ _ rfl ?_; refine wpList_mload1 rfl 5 _ rfl _ _ rfl 0 H _ (.int .u8 _) rfl rfl (by decide +kernel) ?_) | fail)
            go_roundw
            case rel => exact ⟨k + 1, by omega, by go_num, HS2.out, H.sub (List.Sublist.cons _ (List.Sublist.refl _))⟩
            case measure => simp [intOf]; omega
          · have hd2 : decide (w8 u.x + 7 < x) = false := decide_eq_false hb
            have e : dotX u x = dotK u (x - w8 u.x).toNat := by unfold dotX; rw [if_pos (by omega)]
            have hR := dot_rawR u.lo u.hi (7 - (x - w8 u.x).toNat)
            have hE : dotX u x = w8 u.lo / 2 ^ (7 - (x - w8 u.x).toNat) % 2 + 2 * (w8 u.hi / 2 ^ (7 - (x - w8 u.x).toNat) % 2) := by rw [hR, e]; rfl
            have hv := dotX_lt u x
            have p1 : 0 ≤ w8 u.lo / 2 ^ (7 - (x - w8 u.x).toNat) := by rw [w8_shr]; exact (w8_lt _).1
            have p2 : 0 ≤ w8 u.hi / 2 ^ (7 - (x - w8 u.x).toNat) := by rw [w8_shr]; exact (w8_lt _).1
            have t1 : (w8 u.lo / 2 ^ (7 - (x - w8 u.x).toNat)).tmod 2 = w8 u.lo / 2 ^ (7 - (x - w8 u.x).toNat) % 2 := Int.tmod_eq_emod_of_nonneg p1
            have t2 : (w8 u.hi / 2 ^ (7 - (x - w8 u.x).toNat)).tmod 2 = w8 u.hi / 2 ^ (7 - (x - w8 u.x).toNat) % 2 := Int.tmod_eq_emod_of_nonneg p2
            have q1 : 0 ≤ w8 u.lo / 2 ^ (7 - (x - w8 u.x).toNat) % 2 ∧ w8 u.lo / 2 ^ (7 - (x - w8 u.x).toNat) % 2 < 2 := by omega
            have q2 : 0 ≤ w8 u.hi / 2 ^ (7 - (x - w8 u.x).toNat) % 2 ∧ w8 u.hi / 2 ^ (7 - (x - w8 u.x).toNat) % 2 < 2 := by omega
            have e7 : (7 - (x - w8 u.x)).toNat = 7 - (x - w8 u.x).toNat := by omega
            have hlo := w8_lt u.lo
            have hhi := w8_lt u.hi
            obtain ⟨v, hv0⟩ : ∃ v, w8 u.lo / 2 ^ (7 - (x - w8 u.x).toNat) % 2 + 2 * (w8 u.hi / 2 ^ (7 - (x - w8 u.x).toNat) % 2) = v := ⟨_, rfl⟩
            rw [hv0] at hE
            rw [hE] at hv
            have HE := Lib.hid hE
            clear hR e hE
            go_wp2_with (first | (refine gate_load _ _ rfl ?_; refine wpList_xload rfl 36 _ rfl _ _ rfl H (unC _) HC.out HLT (by decide +kernel) (by kernel_rfl) ?_) | (refine wpList_mnew rfl _ rfl H _ HZ.out ?_; clear H; intro Ru w1 _ H) | (refine gate_store _ _ _ rfl ?_; refine wpList_mstoreA rfl 36 _ _ rfl rfl _ rfl 0 H (unC _) _ rfl rfl (by kernel_rfl) (by kernel_rfl) (by kernel_rfl) ?_; clear H; intro w1 H; simp only [List.set_cons_zero, List.set_cons_succ] at H) | (refine gate_load _ _ rfl ?_; refine wpList_mload1 rfl 5 _ rfl _ _ rfl 0 H _ (.int .u8 _) rfl rfl (by decide +kernel) ?_) | fail)
            (try simp only [Act.put, List.setIfInBounds_toArray, List.set_cons_succ, List.set_cons_zero])
            (refine wp_region_quiet_below (by kernel_rfl) (by kernel_rfl) ?_); (repeat (first | (go_big_quiet_want; refine gate_qload _ _ rfl ?_; refine quiet_mload1 5 _ rfl _ _ rfl 0 H _ (.int .u8 _) rfl rfl (by decide +kernel) ?_; simp only [Act.put, List.setIfInBounds_toArray, List.set_cons_succ, List.set_cons_zero]; go_big_quiet_on) | go_big_quiet_step ((first | fail)))); (refine wpQuiet_nil ?_); intro _ hw'; obtain ⟨⟨dq, osq⟩, hw''⟩ := hw'; (subst hw''); replace H := H.next (below_regrown _ dq osq); generalize Go.Sort.grow (redrawn _ dq) osq = wq at *
            clear t1 t2 p1 p2 q1 q2 e7 hv0
            by_cases hz : v = 0
            · have HS2 := Lib.hid (HNO.out (HE.out.trans hz))
              have hz2 : decide (0 < v) = false := decide_eq_false (by omega)
              clear HNO HYE
              subst hz
              go_wp2_with fail
              go_roundw
              case rel => exact ⟨k + 1, by omega, by go_num, HS2.out, H.sub (List.Sublist.cons _ (List.Sublist.refl _))⟩
              case measure => simp [intOf]; omega
            · have hz1 : 0 < v := by omega
              have HS2 := Lib.hid (HYE.out (by rw [HE.out]; exact hz))
              rw [HE.out] at HS2
              have hz2 : decide (0 < v) = true := decide_eq_true hz1
              have ht := w8_lt u.tint
              have t4 : (w8 u.tint).tmod 4 = w8 u.tint % 4 := Int.tmod_eq_emod_of_nonneg ht.1
              clear HNO HYE
              go_wp2_with fail
              (try simp only [Act.put, List.setIfInBounds_toArray, List.set_cons_succ, List.set_cons_zero])
              (refine wp_region_quiet_below (by kernel_rfl) (by kernel_rfl) ?_); (repeat (first | (go_big_quiet_want; refine gate_qload _ _ rfl ?_; refine quiet_mload1 5 _ rfl _ _ rfl 0 H _ (.int .u8 _) rfl rfl (by decide +kernel) ?_; simp only [Act.put, List.setIfInBounds_toArray, List.set_cons_succ, List.set_cons_zero]; go_big_quiet_on) | (go_big_quiet_want; refine gate_qload _ _ rfl ?_; refine quiet_mload1 4 _ rfl _ _ rfl 0 H _ (.bool _) rfl rfl (by decide +kernel) ?_; simp only [Act.put, List.setIfInBounds_toArray, List.set_cons_succ, List.set_cons_zero]; go_big_quiet_on) | go_big_quiet_step ((first | fail)))); (refine wpQuiet_nil ?_); intro _ hw'; obtain ⟨⟨dq, osq⟩, hw''⟩ := hw'; (subst hw''); replace H := H.next (below_regrown _ dq osq); generalize Go.Sort.grow (redrawn _ dq) osq = wq at *
              go_wp2
              (try simp only [Exit.inBlock, Exit.then]); refine bodyPost_ret (sp_tmp3 rfl _ _ _) rfl ?_
              refine ⟨?_, H.toBelow⟩
              rw [HS2.out]
              first | rfl | (trace_state; sorry)
      · obtain rfl : k = l.length := by omega
        have HS2 := Lib.hid hS.out
        rw [List.drop_length] at HS2
        clear hS
        go_wp2
        (try simp only [Exit.inBlock, Exit.then]); refine bodyPost_ret (sp_tmp3 rfl _ _ _) rfl ?_
        exact ⟨by rw [HS2.out]; rfl, H.toBelow⟩
set_option maxHeartbeats 4000000 in
theorem ranyu_ct (sv : Value) (l : List Un) (w : World) (hr : RdU w sv l) : Calls Try.prog 21 #[sv] w fun e w' => e = .returned (.bool (anyU l)) ∧ Below w.heap.size w w' := by
  obtain ⟨a, cap, rfl, hcap, hn, hr⟩ := hr
  unfold maxLen at hn
  have H := Mem.start w
  rcases hr with rfl | ⟨b, off, rfl, HLT, hc⟩
  · go_enter Try.func21, Try.ntmps21
    go_wp2
    go_loopw [3] (fun i wr => i = .int .i64 0 ∧ wr = w) (fun _ _ => 0)
    case atStart => exact ⟨rfl, rfl⟩
    case round =>
      obtain ⟨rfl, rfl⟩ := hrel
      go_wp2
      go_ret
      exact ⟨rfl, Below.refl _ _⟩
  · have HCC := Lib.hid hc
    clear hc
    go_enter Try.func21, Try.ntmps21
    go_wp2
    go_loopw [3] (fun i wr => ∃ k : Nat, k ≤ l.length ∧ i = .int .i64 k ∧ Hid (anyU l = anyU (l.drop k)) ∧ Mem w.heap.size [] w wr []) (fun i _ => l.length - (intOf i).toNat)
    case atStart => exact ⟨0, Nat.zero_le _, rfl, by rw [List.drop_zero]; exact Lib.hid rfl, H⟩
    case round =>
      clear H
      obtain ⟨k, hk, rfl, hS, H⟩ := hrel
      by_cases hlt : k < l.length
      · have h6 := (H.old HLT (by simp) _).trans (HCC.out k hlt 6 _ rfl)
        cases hd : (unAt l k).s
        · have HS2 := Lib.hid (hS.out.trans (anyU_no hlt hd))
          rw [hd] at h6
          clear hS hd
          go_wp2
          go_roundw
          case rel => exact ⟨k + 1, by omega, by go_num, HS2.out, H⟩
          case measure => simp [intOf]; omega
        · have HS2 := Lib.hid (hS.out.trans (anyU_yes hlt hd))
          rw [hd] at h6
          clear hS hd
          go_wp2
          go_ret
          exact ⟨by rw [HS2.out]; rfl, H.toBelow⟩
      · obtain rfl : k = l.length := by omega
        have HS2 := Lib.hid hS.out
        rw [List.drop_length] at HS2
        clear hS
        go_wp2
        go_ret
        exact ⟨by rw [HS2.out]; rfl, H.toBelow⟩
end Go.Proofs.Ytphnpahjofacfaa
