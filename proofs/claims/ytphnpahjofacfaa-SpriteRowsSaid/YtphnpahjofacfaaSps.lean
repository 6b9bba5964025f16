/-
  The document's Find. Over this seat's translation; no condition. (Written by gen_sp.py.)
-/
import Derived.Test.YtphnpahjofacfaaSpr
import Derived.Test.YtphnpahjofacfaaSpe
namespace Go.Proofs.Ytphnpahjofacfaa
open Go.RowKit Go.Sort
set_option linter.unusedSimpArgs false
set_option linter.unusedVariables false
set_option maxRecDepth 20000

theorem rfi_s {l : List (Int × Bool)} {s : Bool} {k : Nat} (h : secY l = (s || secF l (64 - k) k)) (hk : k < 64) : secY l = ((s || (nth l (4 * k)).2) || secF l (64 - (k + 1)) (k + 1)) := by
  rw [h, show 64 - k = (64 - (k + 1)) + 1 by omega, secF, Bool.or_assoc]
theorem rfi_no {A P : List Nat} {l : List (Int × Bool)} {line : Int} {t : Bool} {k : Nat} (h : A = P ++ fromS l line t (64 - k) k) (hk : k < 64) (ho : onS l line t k = false) : A = P ++ fromS l line t (64 - (k + 1)) (k + 1) := by
  rw [h, show 64 - k = (64 - (k + 1)) + 1 by omega, fromS_no _ _ _ _ _ ho]
theorem rfi_yes {A P : List Nat} {l : List (Int × Bool)} {line : Int} {t : Bool} {k : Nat} (h : A = P ++ fromS l line t (64 - k) k) (hk : k < 64) (ho : onS l line t k = true) : A = (P ++ [k]) ++ fromS l line t (64 - (k + 1)) (k + 1) := by
  rw [h, show 64 - k = (64 - (k + 1)) + 1 by omega, fromS_yes _ _ _ _ _ ho, List.append_assoc]
  rfl
/-- What the document's Find answers. -/
def RFindP (l : List (Int × Bool)) (line : Int) (t : Bool) (w : World) (e : Ending) (w' : World) : Prop :=
  ∃ v blk, e = .returned (.tuple #[v, .bool (decide (8 < (onL l line t).length)), .bool (secY l)]) ∧ RowAt icl 1 v ((onL l line t).take 8) blk ∧ Mem w.heap.size [] w w' blk
theorem alloc_sby (w : World) : (Instr.alloc 24 true (.tuple #[])).run Try.prog w = .ok (.pointer (some ⟨w.heap.size, 0, none⟩)) (w.alloc (.cells #[.int .u8 0, .bool false] 24)) := by kernel_rfl
attribute [local irreducible] wpList
set_option maxHeartbeats 8000000 in
theorem rfind_ct (b off cap : Nat) (line : Int) (t : Bool) (l : List (Int × Bool)) (w : World) (hL : Ls w b off l) (hl : l.length = 256) (hb : bytS l) (hc : 256 ≤ cap) (hm : cap ≤ maxLen) (l0 : 0 ≤ line) (l1 : line < 256) :
    Calls Try.prog 13 #[.slice (some ⟨b, off, none⟩) 256 cap, .int .i64 line, .bool t] w (RFindP l line t w) := by
  unfold maxLen at hm
  have HLT : b < w.heap.size := hL.lt
  have HZ := Lib.hid alloc_sby
  have QH := Lib.hid (fun wr => rlines15_ct t wr)
  have hh := highS_lt t
  have HL := Lib.hid hL
  have HBT := Lib.hid hb
  have H := Mem.start w
  clear hL hb
  go_enter Try.func13, Try.ntmps13
  go_wp2_with fail
  go_loopw [9, 10, 11, 12, 13] (fun f mm ss i _ wr => ∃ (k : Nat) (P : List Nat) (s : Bool) (blk : List (Nat × Array Value)), k ≤ 64 ∧ RowAt icl 1 f (P.take 8) blk ∧ mm = .bool (decide (8 < P.length)) ∧ ss = .bool s ∧ i = .int .i64 k ∧ Hid (onL l line t = P ++ fromS l line t (64 - k) k ∧ secY l = (s || secF l (64 - k) k)) ∧ Mem w.heap.size [] w wr blk) (fun _ _ _ i _ _ => 64 - (intOf i).toNat)
  case atStart => exact ⟨0, [], false, [], by omega, RowAt.nil, rfl, rfl, rfl, Lib.hid ⟨rfl, rfl⟩, H⟩
  case round =>
    clear H
    obtain ⟨k, P, s, blk, hk, hA, rfl, rfl, rfl, hI, H⟩ := hrel
    by_cases hlt : k < 64
    · obtain ⟨c0, c1⟩ := HL.out.at_ (4 * k) (by omega)
      obtain ⟨y0, y1⟩ := HBT.out (4 * k) (by omega)
      have HC := Lib.hid (cells2 c0 c1)
      clear c0 c1
      obtain ⟨ys, hys⟩ : ∃ ys, (nth l (4 * k)).2 = ys := ⟨_, rfl⟩
      have HO := Lib.hid (show onS l line t k = (decide (0 ≤ line - (nth l (4 * k)).1) && decide (line - (nth l (4 * k)).1 < highS t)) from rfl)
      rw [hys] at HC
      generalize (nth l (4 * k)).1 = y at *
      by_cases ha : y ≤ line
      · have hd1 : decide (y ≤ line) = true := decide_eq_true ha
        by_cases hb2 : line < y + highS t
        · have ho : (decide (0 ≤ line - y) && decide (line - y < highS t)) = true := by simp; omega
          have ho2 := HO.out
          rw [ho] at ho2
          have HI := Lib.hid (rfi_yes hI.out.1 hlt ho2)
          have HS := Lib.hid (rfi_s hI.out.2 hlt)
          rw [hys] at HS
          clear hI ho ho2 HO hys
          by_cases h8 : P.length < 8
          · rw [List.take_of_length_le (by omega)] at hA
            obtain ⟨ba, bc, rfl, hbc⟩ := hA.shape
            have HA := Lib.hid hA
            have hf : decide (8 < P.length) = false := decide_eq_false (by omega)
            have M1 : True := trivial
            have M2 : True := trivial
            clear hA
            cases ys
            all_goals
              go_wp2_with (first | (refine gate_load _ _ rfl ?_; refine wpList_xload rfl 24 _ rfl _ _ rfl H #[.int .u8 y, .bool _] HC.out HLT (by decide +kernel) (by kernel_rfl) ?_) | (refine wpList_mnew rfl _ rfl H _ HZ.out ?_; clear H; intro Ry w1 _ H) | (refine gate_store _ _ _ rfl ?_; refine wpList_mstoreA rfl 24 _ _ rfl rfl _ rfl 0 H #[_, _] _ rfl rfl (by kernel_rfl) (by kernel_rfl) (by kernel_rfl) ?_; clear H; intro w1 H; simp only [List.set_cons_zero, List.set_cons_succ] at H) | (refine gate_load _ _ rfl ?_; refine wpList_mload1 rfl 4 _ rfl _ _ rfl 0 H _ (.bool _) rfl rfl (by decide +kernel) ?_) | fail)
              (try simp only [Act.put, List.setIfInBounds_toArray, List.set_cons_succ, List.set_cons_zero])
              (refine wp_region_quiet_below (by kernel_rfl) (by kernel_rfl) ?_); (repeat (first | (go_big_quiet_want; refine gate_qload _ _ rfl ?_; refine quiet_mload1 5 _ rfl _ _ rfl 0 H _ (.int .u8 _) rfl rfl (by decide +kernel) ?_; simp only [Act.put, List.setIfInBounds_toArray, List.set_cons_succ, List.set_cons_zero]; go_big_quiet_on) | go_big_quiet_step ((first | (go_at_call 31; (with_reducible exact Calls.regrown_of (QH.out _))) | fail)))); (refine wpQuiet_nil ?_); intro _ hw'; obtain ⟨⟨dq, osq⟩, hw''⟩ := hw'; (subst hw''); replace H := H.next (below_regrown _ dq osq); generalize Go.Sort.grow (redrawn _ dq) osq = wq at *
              go_wp2_with (first | (clear M1; refine wpList_mrow rfl _ _ _ rfl H _ (by simp only [List.map_toArray, List.map_cons, List.map_nil, Act.eval]; rfl) _ _ (build_s64 k) ?_; clear H; intro R1 w1 H) | (clear M2; refine wpList_mappG rfl _ _ rfl kI64 icl_len icl_one HA.out [k] 1 rfl (by decide) (by omega) _ (H.perm (List.Perm.cons _ (List.perm_append_comm (l₁ := [_])))) rfl rfl rfl ?_; clear H HA; intro v' blk' w1 hA H; replace H := H.perm List.perm_append_comm; simp only [List.cons_append, List.nil_append] at H; have HA := Lib.hid hA; clear hA) | fail)
              go_roundw
              case rel => exact ⟨k + 1, P ++ [k], _, blk', by omega, by rw [List.take_of_length_le (by simp; omega)]; exact HA.out, by rw [decide_eq_false (show ¬ 8 < (P ++ [k]).length by simp; omega)], rfl, by go_num, Lib.hid ⟨HI.out, by first | exact HS.out | (have := HS.out; simpa using this)⟩, H.sub (List.Sublist.cons _ (List.Sublist.refl _))⟩
              case measure => simp [intOf]; omega
          · have h88 : (P.take 8).length = 8 := by rw [List.length_take]; omega
            obtain ⟨ba, bc, rfl, hbc⟩ := hA.shape
            have HA := Lib.hid hA
            rw [h88] at HA
            rw [h88]
            clear hA
            cases ys
            all_goals
              go_wp2_with (first | (refine gate_load _ _ rfl ?_; refine wpList_xload rfl 24 _ rfl _ _ rfl H #[.int .u8 y, .bool _] HC.out HLT (by decide +kernel) (by kernel_rfl) ?_) | (refine wpList_mnew rfl _ rfl H _ HZ.out ?_; clear H; intro Ry w1 _ H) | (refine gate_store _ _ _ rfl ?_; refine wpList_mstoreA rfl 24 _ _ rfl rfl _ rfl 0 H #[_, _] _ rfl rfl (by kernel_rfl) (by kernel_rfl) (by kernel_rfl) ?_; clear H; intro w1 H; simp only [List.set_cons_zero, List.set_cons_succ] at H) | (refine gate_load _ _ rfl ?_; refine wpList_mload1 rfl 4 _ rfl _ _ rfl 0 H _ (.bool _) rfl rfl (by decide +kernel) ?_) | fail)
              (try simp only [Act.put, List.setIfInBounds_toArray, List.set_cons_succ, List.set_cons_zero])
              (refine wp_region_quiet_below (by kernel_rfl) (by kernel_rfl) ?_); (repeat (first | (go_big_quiet_want; refine gate_qload _ _ rfl ?_; refine quiet_mload1 5 _ rfl _ _ rfl 0 H _ (.int .u8 _) rfl rfl (by decide +kernel) ?_; simp only [Act.put, List.setIfInBounds_toArray, List.set_cons_succ, List.set_cons_zero]; go_big_quiet_on) | go_big_quiet_step ((first | (go_at_call 31; (with_reducible exact Calls.regrown_of (QH.out _))) | fail)))); (refine wpQuiet_nil ?_); intro _ hw'; obtain ⟨⟨dq, osq⟩, hw''⟩ := hw'; (subst hw''); replace H := H.next (below_regrown _ dq osq); generalize Go.Sort.grow (redrawn _ dq) osq = wq at *
              go_wp2_with fail
              go_roundw
              case rel => exact ⟨k + 1, P ++ [k], _, blk, by omega, by rw [List.take_append_of_le_length (by omega)]; exact HA.out, by rw [decide_eq_true (show 8 < (P ++ [k]).length by simp; omega)], rfl, by go_num, Lib.hid ⟨HI.out, by first | exact HS.out | (have := HS.out; simpa using this)⟩, H.sub (List.Sublist.cons _ (List.Sublist.refl _))⟩
              case measure => simp [intOf]; omega
        · have ho : (decide (0 ≤ line - y) && decide (line - y < highS t)) = false := by simp; omega
          have ho2 := HO.out
          rw [ho] at ho2
          have HI := Lib.hid (rfi_no hI.out.1 hlt ho2)
          have HS := Lib.hid (rfi_s hI.out.2 hlt)
          rw [hys] at HS
          clear hI ho ho2 HO hys
          have hd2 : decide (line < y + highS t) = false := decide_eq_false hb2
          cases ys
          all_goals
            go_wp2_with (first | (refine gate_load _ _ rfl ?_; refine wpList_xload rfl 24 _ rfl _ _ rfl H #[.int .u8 y, .bool _] HC.out HLT (by decide +kernel) (by kernel_rfl) ?_) | (refine wpList_mnew rfl _ rfl H _ HZ.out ?_; clear H; intro Ry w1 _ H) | (refine gate_store _ _ _ rfl ?_; refine wpList_mstoreA rfl 24 _ _ rfl rfl _ rfl 0 H #[_, _] _ rfl rfl (by kernel_rfl) (by kernel_rfl) (by kernel_rfl) ?_; clear H; intro w1 H; simp only [List.set_cons_zero, List.set_cons_succ] at H) | (refine gate_load _ _ rfl ?_; refine wpList_mload1 rfl 4 _ rfl _ _ rfl 0 H _ (.bool _) rfl rfl (by decide +kernel) ?_) | fail)
            (try simp only [Act.put, List.setIfInBounds_toArray, List.set_cons_succ, List.set_cons_zero])
            (refine wp_region_quiet_below (by kernel_rfl) (by kernel_rfl) ?_); (repeat (first | (go_big_quiet_want; refine gate_qload _ _ rfl ?_; refine quiet_mload1 5 _ rfl _ _ rfl 0 H _ (.int .u8 _) rfl rfl (by decide +kernel) ?_; simp only [Act.put, List.setIfInBounds_toArray, List.set_cons_succ, List.set_cons_zero]; go_big_quiet_on) | go_big_quiet_step ((first | (go_at_call 31; (with_reducible exact Calls.regrown_of (QH.out _))) | fail)))); (refine wpQuiet_nil ?_); intro _ hw'; obtain ⟨⟨dq, osq⟩, hw''⟩ := hw'; (subst hw''); replace H := H.next (below_regrown _ dq osq); generalize Go.Sort.grow (redrawn _ dq) osq = wq at *
            go_wp2_with fail
            go_roundw
            case rel => exact ⟨k + 1, P, _, blk, by omega, hA, rfl, rfl, by go_num, Lib.hid ⟨HI.out, by first | exact HS.out | (have := HS.out; simpa using this)⟩, H.sub (List.Sublist.cons _ (List.Sublist.refl _))⟩
            case measure => simp [intOf]; omega
      · have hd1 : decide (y ≤ line) = false := decide_eq_false ha
        have ho : (decide (0 ≤ line - y) && decide (line - y < highS t)) = false := by simp; omega
        have ho2 := HO.out
        rw [ho] at ho2
        have HI := Lib.hid (rfi_no hI.out.1 hlt ho2)
        have HS := Lib.hid (rfi_s hI.out.2 hlt)
        rw [hys] at HS
        clear hI ho ho2 HO hys
        cases ys
        all_goals
          go_wp2_with (first | (refine gate_load _ _ rfl ?_; refine wpList_xload rfl 24 _ rfl _ _ rfl H #[.int .u8 y, .bool _] HC.out HLT (by decide +kernel) (by kernel_rfl) ?_) | (refine wpList_mnew rfl _ rfl H _ HZ.out ?_; clear H; intro Ry w1 _ H) | (refine gate_store _ _ _ rfl ?_; refine wpList_mstoreA rfl 24 _ _ rfl rfl _ rfl 0 H #[_, _] _ rfl rfl (by kernel_rfl) (by kernel_rfl) (by kernel_rfl) ?_; clear H; intro w1 H; simp only [List.set_cons_zero, List.set_cons_succ] at H) | (refine gate_load _ _ rfl ?_; refine wpList_mload1 rfl 4 _ rfl _ _ rfl 0 H _ (.bool _) rfl rfl (by decide +kernel) ?_) | fail)
          (try simp only [Act.put, List.setIfInBounds_toArray, List.set_cons_succ, List.set_cons_zero])
          (refine wp_region_quiet_below (by kernel_rfl) (by kernel_rfl) ?_); (repeat (first | (go_big_quiet_want; refine gate_qload _ _ rfl ?_; refine quiet_mload1 5 _ rfl _ _ rfl 0 H _ (.int .u8 _) rfl rfl (by decide +kernel) ?_; simp only [Act.put, List.setIfInBounds_toArray, List.set_cons_succ, List.set_cons_zero]; go_big_quiet_on) | go_big_quiet_step ((first | (go_at_call 31; (with_reducible exact Calls.regrown_of (QH.out _))) | fail)))); (refine wpQuiet_nil ?_); intro _ hw'; obtain ⟨⟨dq, osq⟩, hw''⟩ := hw'; (subst hw''); replace H := H.next (below_regrown _ dq osq); generalize Go.Sort.grow (redrawn _ dq) osq = wq at *
          go_wp2_with fail
          go_roundw
          case rel => exact ⟨k + 1, P, _, blk, by omega, hA, rfl, rfl, by go_num, Lib.hid ⟨HI.out, by first | exact HS.out | (have := HS.out; simpa using this)⟩, H.sub (List.Sublist.cons _ (List.Sublist.refl _))⟩
          case measure => simp [intOf]; omega
    · obtain rfl : k = 64 := by omega
      have e1 := hI.out.1
      have e2 := hI.out.2
      rw [show fromS l line t (64 - 64) 64 = [] from rfl, List.append_nil] at e1
      rw [show secF l (64 - 64) 64 = false from rfl, Bool.or_false] at e2
      have E1 := Lib.hid e1
      have E2 := Lib.hid e2
      clear hI e1 e2
      go_wp2
      (try simp only [Exit.inBlock, Exit.then]); refine bodyPost_ret (sp_tmp3 rfl _ _ _) rfl ?_
      exact ⟨_, blk, by rw [E1.out, E2.out]; rfl, by rw [E1.out]; exact hA, H⟩
end Go.Proofs.Ytphnpahjofacfaa
