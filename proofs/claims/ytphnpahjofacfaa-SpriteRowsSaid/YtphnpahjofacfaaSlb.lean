/-
  The walk of SpriteFinds. Over this seat's translation; no condition. (Written by gen_sp.py.)
-/
import Derived.Test.YtphnpahjofacfaaSpy
import Derived.Test.YtphnpahjofacfaaSps
namespace Go.Proofs.Ytphnpahjofacfaa
open Go.RowKit Go.Sort
set_option linter.unusedSimpArgs false
set_option linter.unusedVariables false
set_option maxRecDepth 20000

/-- What Few hands on. -/
def cutV (v : Value) : Value := match v with
  | .slice a n c => if 257 < n then .slice a 257 c else .slice a n c
  | v => v
theorem Rd.cut15 {w : World} {v : Value} {l : List (Int × Bool)} (h : Rd w v l) : Rd w (cutV v) (l.take 257) := by
  have h0 := h
  obtain ⟨a, cap, rfl, hc, hm, hr⟩ := h
  rw [show cutV (.slice a l.length cap) = if 257 < l.length then .slice a 257 cap else .slice a l.length cap from rfl]
  by_cases hn : 257 < l.length
  · rw [if_pos hn]
    rcases hr with rfl | ⟨b, off, rfl, hb, hq⟩
    · simp at hn
    · exact Rd.takeS 257 (by omega) hc hm hb hq
  · rw [if_neg hn, List.take_of_length_le (by omega)]
    exact h0
theorem few15_cut (sv : Value) (l : List (Int × Bool)) (w : World) (hr : Rd w sv l) : Calls Try.prog 8 #[sv] w fun e w' => e = .returned (cutV sv) ∧ Below w.heap.size w w' := by
  obtain ⟨a, cap, rfl, hcap, hn, hr⟩ := hr
  rw [show cutV (.slice a l.length cap) = if 257 < l.length then .slice a 257 cap else .slice a l.length cap from rfl]
  unfold maxLen at hn
  by_cases h : 257 < l.length
  · rw [if_pos h]
    clear hr
    go_enter Try.func8, Try.ntmps8
    go_wp2
    go_ret
    exact ⟨rfl, Below.refl _ _⟩
  · rw [if_neg h]
    clear hr
    go_enter Try.func8, Try.ntmps8
    go_wp2
    go_ret
    exact ⟨rfl, Below.refl _ _⟩
theorem find_len {A P : List Nat} {l : List (Int × Bool)} {line : Int} {t : Bool} {i : Nat} (h : A = (P ++ [i]) ++ fromS l line t (64 - (i + 1)) (i + 1)) : P.length < A.length ∧ A[P.length]? = some i := by
  rw [h]
  constructor
  · simp
  · simp
/-- What Find answers, where there are more, and where there are not. -/
theorem find_more {l : List (Int × Bool)} {line : Int} {t : Bool} {w w' : World} {e : Ending} {A : List Nat} (h : FindP l line t w e w') (hA : onL l line t = A) (h8 : 8 < A.length) : ∃ ba bc blk, e = .returned (.tuple #[.slice ba 8 bc, .bool true, .bool (secY l), .int .i64 0]) ∧ RowAt icl 1 (.slice ba 8 bc) (A.take 8) blk ∧ Mem w.heap.size [] w w' blk := by
  obtain ⟨v, blk, rfl, hR, hM⟩ := h
  rw [hA] at hR ⊢
  obtain ⟨ba, bc, rfl, _⟩ := hR.shape
  have e8 : (A.take 8).length = 8 := by rw [List.length_take]; omega
  rw [e8] at hR ⊢
  exact ⟨ba, bc, blk, by rw [decide_eq_true h8], hR, hM⟩
theorem find_all {l : List (Int × Bool)} {line : Int} {t : Bool} {w w' : World} {e : Ending} {A : List Nat} (h : FindP l line t w e w') (hA : onL l line t = A) (h8 : A.length ≤ 8) : ∃ ba bc blk, e = .returned (.tuple #[.slice ba A.length bc, .bool false, .bool (secY l), .int .i64 0]) ∧ RowAt icl 1 (.slice ba A.length bc) A blk ∧ Mem w.heap.size [] w w' blk := by
  obtain ⟨v, blk, rfl, hR, hM⟩ := h
  rw [hA] at hR ⊢
  rw [List.take_of_length_le h8] at hR
  obtain ⟨ba, bc, rfl, _⟩ := hR.shape
  exact ⟨ba, bc, blk, by rw [decide_eq_false (by omega)], hR, hM⟩
attribute [local irreducible] wpList
set_option maxHeartbeats 8000000 in
theorem finds_false_more (sv : Value) (l : List (Int × Bool)) (qi ql : Int) (qb : Bool) (lo : BitVec 8) (ls : Bool) (hi : BitVec 8) (hs : Bool) (qx : Int) (w : World) (hr : Rd w sv l) (hb : bytS l) (hn : (l.take 257).length = 256) (l0 : 0 ≤ ql) (l1 : ql < 256) (h8 : 8 < (onL (l.take 257) ql false).length) : Calls Try.prog 5 #[sv, .agg (saC ⟨qi, ql, false, qb, lo, ls, hi, hs, qx⟩)] w fun e w' => e = .returned (.bool true) ∧ Below w.heap.size w w' := by
  have QW := Lib.hid (fun wr => awake15_ct wr)
  have QF := fun wr h => few15_cut sv l wr h
  have HR := Lib.hid hr
  have hr2 := hr.cut15
  have hb2 := bytS_take hb 257
  generalize l.take 257 = l2 at *
  generalize cutV sv = v2 at *
  have H := Mem.start w
  have M1 : True := trivial
  obtain ⟨b, off, cap, rfl, hL, hc, hm⟩ := hr2.ls hn
  have QF := Lib.hid QF
  have HB := Lib.hid hb2
  have HL := Lib.hid hL
  have HLT : b < w.heap.size := hL.lt
  clear hr2 hr hb hL
  have QA := Lib.hid (fun wr h => sfind_ct b off cap ql false l2 wr h hn hb2 hc hm l0 l1)
  clear hb2
  unfold maxLen at hm
  obtain ⟨A, hAe⟩ : ∃ A, onL l2 ql false = A := ⟨_, rfl⟩
  rw [hAe] at h8
  have hA64 : A.length ≤ 64 := by rw [← hAe]; exact fromS_len _ _ _ _ _
  go_enter Try.func5, Try.ntmps5
  go_wp2_with (first | (clear M1; refine wpList_mboxA rfl _ _ rfl H (saC ⟨qi, ql, false, qb, lo, ls, hi, hs, qx⟩) rfl ?_; clear H; intro Rq w1 _ H) | (go_at_call 8; (with_reducible refine (QF.out _ (HR.out.below H.toBelow)).mono ?_); rintro e w2 ⟨rfl, hB⟩; replace H := H.next hB; clear hB) | (go_at_call 9; (with_reducible refine (QA.out _ (HL.out.mem H HLT (by simp))).mono ?_); intro e w2 hF; obtain ⟨ba, bc, blk, rfl, hA, hM⟩ := find_more hF hAe h8; replace H := (H.join hM).perm List.perm_append_comm; simp only [List.cons_append, List.nil_append] at H; have HA := Lib.hid hA; clear hA hM hF) | (refine gate_load _ _ rfl ?_; refine wpList_mload1 rfl 3 _ rfl _ _ rfl 0 H _ (.int .i64 _) rfl rfl (by decide +kernel) ?_) | (refine gate_load _ _ rfl ?_; refine wpList_mload1 rfl 4 _ rfl _ _ rfl 0 H _ (.bool _) rfl rfl (by decide +kernel) ?_) | fail)
  go_loopw [10, 11, 12, 13, 14] (fun kk mm ss ii _ wr => ∃ (i : Nat) (P : List Nat) (s : Bool), i ≤ 64 ∧ kk = .int .i64 (P.length : Int) ∧ mm = .int .i64 (P.length : Int) ∧ ss = .bool s ∧ ii = .int .i64 i ∧ Hid (A = P ++ fromS l2 ql false (64 - i) i ∧ secY l2 = (s || secF l2 (64 - i) i)) ∧ Mem w.heap.size [] w wr ((Rq, saC ⟨qi, ql, false, qb, lo, ls, hi, hs, qx⟩) :: blk)) (fun _ _ _ i _ _ => 64 - (intOf i).toNat)
  case atStart => exact ⟨0, [], false, by omega, rfl, rfl, rfl, rfl, Lib.hid ⟨hAe.symm, rfl⟩, H⟩
  case round =>
    clear H QA
    have hAe2 := Lib.hid hAe
    clear hAe
    obtain ⟨i, P, s, hi64, rfl, rfl, rfl, rfl, hI, H⟩ := hrel
    by_cases hlt : i < 64
    · obtain ⟨c0, -⟩ := (HL.out.mem H HLT (by simp)).at_ (4 * i) (by omega)
      obtain ⟨y0, y1⟩ := HB.out (4 * i) (by omega)
      have HO := Lib.hid (show onS l2 ql false i = (decide (0 ≤ ql - (nth l2 (4 * i)).1) && decide (ql - (nth l2 (4 * i)).1 < 8)) from rfl)
      obtain ⟨ys, hys⟩ : ∃ ys, (nth l2 (4 * i)).2 = ys := ⟨_, rfl⟩
      obtain ⟨y, hy⟩ : ∃ y, (nth l2 (4 * i)).1 = y := ⟨_, rfl⟩
      rw [hy] at c0 y0 y1 HO
      have r0 := cell_regrown c0
      have HS := Lib.hid (rfi_s hI.out.2 hlt)
      rw [hys] at HS
      clear c0
      by_cases ha : 0 ≤ ql - y
      · by_cases hb3 : ql - y < 8
        · have ho2 := HO.out
          rw [decide_eq_true ha, decide_eq_true hb3] at ho2
          have HI := Lib.hid (rfi_yes hI.out.1 hlt ho2)
          obtain ⟨hp, hx⟩ := find_len HI.out
          have hp64 : P.length < 64 := by omega
          clear ho2 HO hI
          by_cases hp8 : P.length < 8
          · skip
            go_wp2_with fail
            (try simp only [Act.put, List.setIfInBounds_toArray, List.set_cons_succ, List.set_cons_zero])
            (refine wp_region_quiet_below (by kernel_rfl) (by kernel_rfl) ?_); (repeat (first | (go_big_quiet_want; refine gate_qload _ _ rfl ?_; refine quiet_mload1 3 _ rfl _ _ rfl 0 H _ (.int .i64 _) rfl rfl (by decide +kernel) ?_; simp only [Act.put, List.setIfInBounds_toArray, List.set_cons_succ, List.set_cons_zero]; go_big_quiet_on) | go_big_quiet_step ((first | fail)))); (refine wpQuiet_nil ?_); intro _ hw'; obtain ⟨⟨dq, osq⟩, hw''⟩ := hw'; (subst hw''); replace H := H.next (below_regrown _ dq osq); generalize Go.Sort.grow (redrawn _ dq) osq = wq at *
            clear r0
            obtain ⟨-, c1⟩ := (HL.out.mem H HLT (by simp)).at_ (4 * i) (by omega)
            rw [hys] at c1
            obtain ⟨R, cs, cap', ev, hbl, hc1, hc2, hat⟩ := HA.out.elem icl_len P.length i (by rw [List.getElem?_take, if_pos hp8]; exact hx)
            have hcell : wq.cell? ⟨R, P.length, none⟩ = some (.int .i64 (i : Int)) := by
              subst hbl
              exact H.cell (i := 1) rfl (by have := hat 0 _ rfl; simpa using this)
            injection ev with e1 e2 e3
            subst e1
            (try clear e2)
            clear hat hbl e3 hc1 hc2 hx
            clear hy hys
            clear hp h8 hA64 hp64
            have hp8i : (P.length : Int) < 8 := by omega
            clear hp8
            generalize hpe : P.length = p at *
            cases s
            all_goals
              go_wp2_with fail
              go_roundw
              case rel => exact ⟨i + 1, P ++ [i], _, by omega, by first | rfl | (rw [List.length_append, hpe]; rfl), by first | rfl | (rw [List.length_append, hpe]; rfl), rfl, by go_num, Lib.hid ⟨HI.out, by first | exact HS.out | (have := HS.out; simpa using this)⟩, H⟩
              case measure => simp [intOf]; omega
          · skip
            go_wp2_with fail
            (try simp only [Act.put, List.setIfInBounds_toArray, List.set_cons_succ, List.set_cons_zero])
            (refine wp_region_quiet_below (by kernel_rfl) (by kernel_rfl) ?_); (repeat (first | (go_big_quiet_want; refine gate_qload _ _ rfl ?_; refine quiet_mload1 3 _ rfl _ _ rfl 0 H _ (.int .i64 _) rfl rfl (by decide +kernel) ?_; simp only [Act.put, List.setIfInBounds_toArray, List.set_cons_succ, List.set_cons_zero]; go_big_quiet_on) | go_big_quiet_step ((first | fail)))); (refine wpQuiet_nil ?_); intro _ hw'; obtain ⟨⟨dq, osq⟩, hw''⟩ := hw'; (subst hw''); replace H := H.next (below_regrown _ dq osq); generalize Go.Sort.grow (redrawn _ dq) osq = wq at *
            clear r0
            obtain ⟨-, c1⟩ := (HL.out.mem H HLT (by simp)).at_ (4 * i) (by omega)
            rw [hys] at c1
            clear hy hys hx
            generalize hpe : P.length = p at *
            cases s
            all_goals
              go_wp2_with fail
              go_roundw
              case rel => exact ⟨i + 1, P ++ [i], _, by omega, by first | rfl | (rw [List.length_append, hpe]; rfl), by first | rfl | (rw [List.length_append, hpe]; rfl), rfl, by go_num, Lib.hid ⟨HI.out, by first | exact HS.out | (have := HS.out; simpa using this)⟩, H⟩
              case measure => simp [intOf]; omega
        · have ho2 := HO.out
          rw [decide_eq_false hb3, Bool.and_false] at ho2
          have HI := Lib.hid (rfi_no hI.out.1 hlt ho2)
          clear ho2 HO hI
          go_wp2_with fail
          (try simp only [Act.put, List.setIfInBounds_toArray, List.set_cons_succ, List.set_cons_zero])
          (refine wp_region_quiet_below (by kernel_rfl) (by kernel_rfl) ?_); (repeat (first | (go_big_quiet_want; refine gate_qload _ _ rfl ?_; refine quiet_mload1 3 _ rfl _ _ rfl 0 H _ (.int .i64 _) rfl rfl (by decide +kernel) ?_; simp only [Act.put, List.setIfInBounds_toArray, List.set_cons_succ, List.set_cons_zero]; go_big_quiet_on) | go_big_quiet_step ((first | fail)))); (refine wpQuiet_nil ?_); intro _ hw'; obtain ⟨⟨dq, osq⟩, hw''⟩ := hw'; (subst hw''); replace H := H.next (below_regrown _ dq osq); generalize Go.Sort.grow (redrawn _ dq) osq = wq at *
          clear r0
          obtain ⟨-, c1⟩ := (HL.out.mem H HLT (by simp)).at_ (4 * i) (by omega)
          rw [hys] at c1
          clear hy hys
          cases s
          all_goals
            go_wp2_with fail
            go_roundw
            case rel => exact ⟨i + 1, P, _, by omega, by first | rfl | (rw [List.length_append, hpe]; rfl), by first | rfl | (rw [List.length_append, hpe]; rfl), rfl, by go_num, Lib.hid ⟨HI.out, by first | exact HS.out | (have := HS.out; simpa using this)⟩, H⟩
            case measure => simp [intOf]; omega
      · have ho2 := HO.out
        rw [decide_eq_false ha, Bool.false_and] at ho2
        have HI := Lib.hid (rfi_no hI.out.1 hlt ho2)
        clear ho2 HO hI
        go_wp2_with fail
        (try simp only [Act.put, List.setIfInBounds_toArray, List.set_cons_succ, List.set_cons_zero])
        (refine wp_region_quiet_below (by kernel_rfl) (by kernel_rfl) ?_); (repeat (first | (go_big_quiet_want; refine gate_qload _ _ rfl ?_; refine quiet_mload1 3 _ rfl _ _ rfl 0 H _ (.int .i64 _) rfl rfl (by decide +kernel) ?_; simp only [Act.put, List.setIfInBounds_toArray, List.set_cons_succ, List.set_cons_zero]; go_big_quiet_on) | go_big_quiet_step ((first | fail)))); (refine wpQuiet_nil ?_); intro _ hw'; obtain ⟨⟨dq, osq⟩, hw''⟩ := hw'; (subst hw''); replace H := H.next (below_regrown _ dq osq); generalize Go.Sort.grow (redrawn _ dq) osq = wq at *
        clear r0
        obtain ⟨-, c1⟩ := (HL.out.mem H HLT (by simp)).at_ (4 * i) (by omega)
        rw [hys] at c1
        clear hy hys
        cases s
        all_goals
          go_wp2_with fail
          go_roundw
          case rel => exact ⟨i + 1, P, _, by omega, by first | rfl | (rw [List.length_append, hpe]; rfl), by first | rfl | (rw [List.length_append, hpe]; rfl), rfl, by go_num, Lib.hid ⟨HI.out, by first | exact HS.out | (have := HS.out; simpa using this)⟩, H⟩
          case measure => simp [intOf]; omega
    · obtain rfl : i = 64 := by omega
      have e1 := hI.out.1
      have e2 := hI.out.2
      rw [show fromS l2 ql false (64 - 64) 64 = [] from rfl, List.append_nil] at e1
      rw [show secF l2 (64 - 64) 64 = false from rfl, Bool.or_false] at e2
      subst e1
      rw [e2]
      clear hI e2
      go_wp2_with (first | (go_at_call 16; (with_reducible refine (QW.out _).mono ?_); rintro e w2 ⟨rfl, hB⟩; replace H := H.next hB; clear hB) | fail)
      go_ret
      exact ⟨rfl, H.toBelow⟩
set_option maxHeartbeats 8000000 in
theorem finds_false_all (sv : Value) (l : List (Int × Bool)) (qi ql : Int) (qb : Bool) (lo : BitVec 8) (ls : Bool) (hi : BitVec 8) (hs : Bool) (qx : Int) (w : World) (hr : Rd w sv l) (hb : bytS l) (hn : (l.take 257).length = 256) (l0 : 0 ≤ ql) (l1 : ql < 256) (h8 : (onL (l.take 257) ql false).length ≤ 8) : Calls Try.prog 5 #[sv, .agg (saC ⟨qi, ql, false, qb, lo, ls, hi, hs, qx⟩)] w fun e w' => e = .returned (.bool true) ∧ Below w.heap.size w w' := by
  have QW := Lib.hid (fun wr => awake15_ct wr)
  have QF := fun wr h => few15_cut sv l wr h
  have HR := Lib.hid hr
  have hr2 := hr.cut15
  have hb2 := bytS_take hb 257
  generalize l.take 257 = l2 at *
  generalize cutV sv = v2 at *
  have H := Mem.start w
  have M1 : True := trivial
  obtain ⟨b, off, cap, rfl, hL, hc, hm⟩ := hr2.ls hn
  have QF := Lib.hid QF
  have HB := Lib.hid hb2
  have HL := Lib.hid hL
  have HLT : b < w.heap.size := hL.lt
  clear hr2 hr hb hL
  have QA := Lib.hid (fun wr h => sfind_ct b off cap ql false l2 wr h hn hb2 hc hm l0 l1)
  clear hb2
  unfold maxLen at hm
  obtain ⟨A, hAe⟩ : ∃ A, onL l2 ql false = A := ⟨_, rfl⟩
  rw [hAe] at h8
  have hA64 : A.length ≤ 64 := by rw [← hAe]; exact fromS_len _ _ _ _ _
  go_enter Try.func5, Try.ntmps5
  go_wp2_with (first | (clear M1; refine wpList_mboxA rfl _ _ rfl H (saC ⟨qi, ql, false, qb, lo, ls, hi, hs, qx⟩) rfl ?_; clear H; intro Rq w1 _ H) | (go_at_call 8; (with_reducible refine (QF.out _ (HR.out.below H.toBelow)).mono ?_); rintro e w2 ⟨rfl, hB⟩; replace H := H.next hB; clear hB) | (go_at_call 9; (with_reducible refine (QA.out _ (HL.out.mem H HLT (by simp))).mono ?_); intro e w2 hF; obtain ⟨ba, bc, blk, rfl, hA, hM⟩ := find_all hF hAe h8; replace H := (H.join hM).perm List.perm_append_comm; simp only [List.cons_append, List.nil_append] at H; have HA := Lib.hid hA; clear hA hM hF) | (refine gate_load _ _ rfl ?_; refine wpList_mload1 rfl 3 _ rfl _ _ rfl 0 H _ (.int .i64 _) rfl rfl (by decide +kernel) ?_) | (refine gate_load _ _ rfl ?_; refine wpList_mload1 rfl 4 _ rfl _ _ rfl 0 H _ (.bool _) rfl rfl (by decide +kernel) ?_) | fail)
  go_loopw [10, 11, 12, 13, 14] (fun kk mm ss ii _ wr => ∃ (i : Nat) (P : List Nat) (s : Bool), i ≤ 64 ∧ kk = .int .i64 (P.length : Int) ∧ mm = .int .i64 (P.length : Int) ∧ ss = .bool s ∧ ii = .int .i64 i ∧ Hid (A = P ++ fromS l2 ql false (64 - i) i ∧ secY l2 = (s || secF l2 (64 - i) i)) ∧ Mem w.heap.size [] w wr ((Rq, saC ⟨qi, ql, false, qb, lo, ls, hi, hs, qx⟩) :: blk)) (fun _ _ _ i _ _ => 64 - (intOf i).toNat)
  case atStart => exact ⟨0, [], false, by omega, rfl, rfl, rfl, rfl, Lib.hid ⟨hAe.symm, rfl⟩, H⟩
  case round =>
    clear H QA
    have hAe2 := Lib.hid hAe
    clear hAe
    obtain ⟨i, P, s, hi64, rfl, rfl, rfl, rfl, hI, H⟩ := hrel
    by_cases hlt : i < 64
    · obtain ⟨c0, -⟩ := (HL.out.mem H HLT (by simp)).at_ (4 * i) (by omega)
      obtain ⟨y0, y1⟩ := HB.out (4 * i) (by omega)
      have HO := Lib.hid (show onS l2 ql false i = (decide (0 ≤ ql - (nth l2 (4 * i)).1) && decide (ql - (nth l2 (4 * i)).1 < 8)) from rfl)
      obtain ⟨ys, hys⟩ : ∃ ys, (nth l2 (4 * i)).2 = ys := ⟨_, rfl⟩
      obtain ⟨y, hy⟩ : ∃ y, (nth l2 (4 * i)).1 = y := ⟨_, rfl⟩
      rw [hy] at c0 y0 y1 HO
      have r0 := cell_regrown c0
      have HS := Lib.hid (rfi_s hI.out.2 hlt)
      rw [hys] at HS
      clear c0
      by_cases ha : 0 ≤ ql - y
      · by_cases hb3 : ql - y < 8
        · have ho2 := HO.out
          rw [decide_eq_true ha, decide_eq_true hb3] at ho2
          have HI := Lib.hid (rfi_yes hI.out.1 hlt ho2)
          obtain ⟨hp, hx⟩ := find_len HI.out
          have hp64 : P.length < 64 := by omega
          clear ho2 HO hI
          go_wp2_with fail
          (try simp only [Act.put, List.setIfInBounds_toArray, List.set_cons_succ, List.set_cons_zero])
          (refine wp_region_quiet_below (by kernel_rfl) (by kernel_rfl) ?_); (repeat (first | (go_big_quiet_want; refine gate_qload _ _ rfl ?_; refine quiet_mload1 3 _ rfl _ _ rfl 0 H _ (.int .i64 _) rfl rfl (by decide +kernel) ?_; simp only [Act.put, List.setIfInBounds_toArray, List.set_cons_succ, List.set_cons_zero]; go_big_quiet_on) | go_big_quiet_step ((first | fail)))); (refine wpQuiet_nil ?_); intro _ hw'; obtain ⟨⟨dq, osq⟩, hw''⟩ := hw'; (subst hw''); replace H := H.next (below_regrown _ dq osq); generalize Go.Sort.grow (redrawn _ dq) osq = wq at *
          clear r0
          obtain ⟨-, c1⟩ := (HL.out.mem H HLT (by simp)).at_ (4 * i) (by omega)
          rw [hys] at c1
          obtain ⟨R, cs, cap', ev, hbl, hc1, hc2, hat⟩ := HA.out.elem icl_len P.length i (hx)
          have hcell : wq.cell? ⟨R, P.length, none⟩ = some (.int .i64 (i : Int)) := by
            subst hbl
            exact H.cell (i := 1) rfl (by have := hat 0 _ rfl; simpa using this)
          injection ev with e1 e2 e3
          subst e1
          (try clear e2)
          clear hat hbl e3 hc1 hc2 hx
          clear hy hys
          generalize hpe : P.length = p at *
          cases s
          all_goals
            go_wp2_with fail
            go_roundw
            case rel => exact ⟨i + 1, P ++ [i], _, by omega, by first | rfl | (rw [List.length_append, hpe]; rfl), by first | rfl | (rw [List.length_append, hpe]; rfl), rfl, by go_num, Lib.hid ⟨HI.out, by first | exact HS.out | (have := HS.out; simpa using this)⟩, H⟩
            case measure => simp [intOf]; omega
        · have ho2 := HO.out
          rw [decide_eq_false hb3, Bool.and_false] at ho2
          have HI := Lib.hid (rfi_no hI.out.1 hlt ho2)
          clear ho2 HO hI
          go_wp2_with fail
          (try simp only [Act.put, List.setIfInBounds_toArray, List.set_cons_succ, List.set_cons_zero])
          (refine wp_region_quiet_below (by kernel_rfl) (by kernel_rfl) ?_); (repeat (first | (go_big_quiet_want; refine gate_qload _ _ rfl ?_; refine quiet_mload1 3 _ rfl _ _ rfl 0 H _ (.int .i64 _) rfl rfl (by decide +kernel) ?_; simp only [Act.put, List.setIfInBounds_toArray, List.set_cons_succ, List.set_cons_zero]; go_big_quiet_on) | go_big_quiet_step ((first | fail)))); (refine wpQuiet_nil ?_); intro _ hw'; obtain ⟨⟨dq, osq⟩, hw''⟩ := hw'; (subst hw''); replace H := H.next (below_regrown _ dq osq); generalize Go.Sort.grow (redrawn _ dq) osq = wq at *
          clear r0
          obtain ⟨-, c1⟩ := (HL.out.mem H HLT (by simp)).at_ (4 * i) (by omega)
          rw [hys] at c1
          clear hy hys
          cases s
          all_goals
            go_wp2_with fail
            go_roundw
            case rel => exact ⟨i + 1, P, _, by omega, by first | rfl | (rw [List.length_append, hpe]; rfl), by first | rfl | (rw [List.length_append, hpe]; rfl), rfl, by go_num, Lib.hid ⟨HI.out, by first | exact HS.out | (have := HS.out; simpa using this)⟩, H⟩
            case measure => simp [intOf]; omega
      · have ho2 := HO.out
        rw [decide_eq_false ha, Bool.false_and] at ho2
        have HI := Lib.hid (rfi_no hI.out.1 hlt ho2)
        clear ho2 HO hI
        go_wp2_with fail
        (try simp only [Act.put, List.setIfInBounds_toArray, List.set_cons_succ, List.set_cons_zero])
        (refine wp_region_quiet_below (by kernel_rfl) (by kernel_rfl) ?_); (repeat (first | (go_big_quiet_want; refine gate_qload _ _ rfl ?_; refine quiet_mload1 3 _ rfl _ _ rfl 0 H _ (.int .i64 _) rfl rfl (by decide +kernel) ?_; simp only [Act.put, List.setIfInBounds_toArray, List.set_cons_succ, List.set_cons_zero]; go_big_quiet_on) | go_big_quiet_step ((first | fail)))); (refine wpQuiet_nil ?_); intro _ hw'; obtain ⟨⟨dq, osq⟩, hw''⟩ := hw'; (subst hw''); replace H := H.next (below_regrown _ dq osq); generalize Go.Sort.grow (redrawn _ dq) osq = wq at *
        clear r0
        obtain ⟨-, c1⟩ := (HL.out.mem H HLT (by simp)).at_ (4 * i) (by omega)
        rw [hys] at c1
        clear hy hys
        cases s
        all_goals
          go_wp2_with fail
          go_roundw
          case rel => exact ⟨i + 1, P, _, by omega, by first | rfl | (rw [List.length_append, hpe]; rfl), by first | rfl | (rw [List.length_append, hpe]; rfl), rfl, by go_num, Lib.hid ⟨HI.out, by first | exact HS.out | (have := HS.out; simpa using this)⟩, H⟩
          case measure => simp [intOf]; omega
    · obtain rfl : i = 64 := by omega
      have e1 := hI.out.1
      have e2 := hI.out.2
      rw [show fromS l2 ql false (64 - 64) 64 = [] from rfl, List.append_nil] at e1
      rw [show secF l2 (64 - 64) 64 = false from rfl, Bool.or_false] at e2
      subst e1
      rw [e2]
      clear hI e2
      go_wp2_with (first | (go_at_call 16; (with_reducible refine (QW.out _).mono ?_); rintro e w2 ⟨rfl, hB⟩; replace H := H.next hB; clear hB) | fail)
      go_ret
      exact ⟨rfl, H.toBelow⟩
end Go.Proofs.Ytphnpahjofacfaa
