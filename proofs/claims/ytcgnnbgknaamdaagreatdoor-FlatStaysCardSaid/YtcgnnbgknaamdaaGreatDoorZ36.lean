/-
  Several texts in one: what is read and written by the functions on the way to the statements. Conditions stand in each theorem.
-/
import Derived.Test.YtcgnnbgknaamdaaGreatDoorZ35
namespace Go.Proofs.YtcgnnbgknaamdaaGreatDoor
open Go.RowKit
set_option linter.unusedSimpArgs false
set_option linter.unusedVariables false
set_option maxRecDepth 20000

theorem fit_from {c : Cp} (O : Oct c) (h : okB c = true) : Fit c := by
  obtain ⟨_, _, _, h7, h8⟩ := (okB_iff _).1 h
  exact ⟨O.a0, O.a1, O.x0, O.x1, O.y0, O.y1, O.s0, O.s1, O.p0, O.p1, O.q0, O.q1, h7, h8, O.pc0, O.pc1, O.op0, O.op1, O.ad0, O.ad1, O.d0, O.d1⟩
attribute [local irreducible] wpList
set_option maxHeartbeats 16000000 in
theorem fstays_walk (c : Cp) (sv : Value) (l : List (Int × Bool)) (qn qk qv : Int) (i n r : Bool) (W : World) (G : GlobO W) (O : Oct c) (hr : Rd W sv l) (om : okM l) :
    Calls Tryz.prog 5 #[.agg (cpC c), sv, .agg #[.int .i64 qn, .int .i64 qk, .int .u8 qv, .bool i, .bool n, .bool r]] W fun e w' => e = .returned (.bool true) ∧ Below W.heap.size W w' := by
  have HR := Lib.hid hr
  have hr2 := rd_cutF hr
  have HR2' := hr2
  obtain ⟨a2, cap2, e2, hcp, hmx, hc2⟩ := hr2
  have om2 := okM_take om 1024
  have hN4 : (l.take 1024).length ≤ 1024 := by rw [List.length_take]; omega
  have QF0 := fun wr h => few_cut sv l wr h
  rw [e2] at QF0 HR2'
  obtain ⟨N, hN⟩ : ∃ N, (l.take 1024).length = N := ⟨_, rfl⟩
  rw [hN] at QF0 HR2' hcp hN4
  generalize l.take 1024 = l2 at *
  have HC2 := Lib.hid hc2
  have HR2 := Lib.hid HR2'
  have QF := Lib.hid QF0
  have QW := Lib.hid (fun wr g => awake11_ct wr g)
  have GG := Lib.hid G
  have HZC := Lib.hid alloc_cpu
  have HB := Lib.hid alloc_bus
  have H := Mem.start W
  clear hc2 HR2' QF0 hr e2 G
  cases hpl : playB c N 1
  case false =>
    have QS := Lib.hid (fun wr gr h => step_no c (.slice a2 N cap2) l2 N i n r O hN (by omega) hpl wr gr h)
    clear O om om2 hpl hcp hmx hN4
    have MR7 : True := trivial
    have MR9 : True := trivial
    go_enter Tryz.func5, Tryz.ntmps5
    go_wp2_with (first | (refine wpList_mboxA rfl _ _ rfl H (cpC c) rfl ?_; clear H; intro Rc w1 _ H) | (refine wpList_mboxA rfl _ _ rfl H #[.int .i64 qn, .int .i64 qk, .int .u8 qv, .bool i, .bool n, .bool r] rfl ?_; clear H; intro Rq w1 _ H) | (go_at_call 6; (with_reducible refine (QF.out _ (HR.out.below H.toBelow)).mono ?_); rintro e w2 ⟨rfl, rfl⟩) | (refine gate_load _ _ rfl ?_; refine wpList_mloadA rfl 28 _ rfl _ rfl 1 H (cpC c) rfl (by decide +kernel) (by kernel_rfl) ?_) | (refine gate_load _ _ rfl ?_; refine wpList_mload rfl 31 _ rfl _ _ rfl 0 H _ #[.bool i, .bool n, .bool r] rfl (by decide +kernel) (by kernel_rfl) (lines_part _ _ _ _ _ _) ?_) | (go_at_call 13; (with_reducible refine (QS.out _ (GG.out.mem H) (HR2.out.below H.toBelow)).mono ?_); rintro e w2 ⟨a3, cap3, blk, rfl, _, hM⟩; replace H := H.next hM.toBelow; clear hM) | (refine wpList_mnew rfl _ rfl H _ HZC.out ?_; clear H; intro R7 w1 _ H) | (refine wpList_mnew rfl _ rfl H _ HB.out ?_; clear H; intro R9 w1 _ H) | (refine gate_store _ _ _ rfl ?_; refine wpList_mstoreA rfl 28 _ _ rfl rfl _ rfl 1 H (cpC _) _ rfl rfl (by kernel_rfl) (by kernel_rfl) (by kernel_rfl) ?_; clear H; intro w1 H; simp only [List.set_cons_zero, List.set_cons_succ] at H) | (refine gate_store _ _ _ rfl ?_; refine wpList_mstoreA rfl 46 _ _ rfl rfl _ rfl 0 H (bsC _) _ rfl rfl (by kernel_rfl) (by kernel_rfl) (by kernel_rfl) ?_; clear H; intro w1 H; simp only [List.set_cons_zero, List.set_cons_succ] at H) | (refine gate_load _ _ rfl ?_; refine wpList_mloadA rfl 28 _ rfl _ rfl 3 H (cpC c) rfl (by decide +kernel) (by kernel_rfl) ?_) | (refine gate_fbin .eql 28 _ _ _ rfl ?_; refine wpList_fbin rfl .eql 28 _ _ _ rfl (.agg (cpC c)) (.agg (cpC c)) _ rfl rfl (fun w => cp_eqlG _ _ _ w) ?_) | (go_at_call 8; (with_reducible refine (QW.out _ (GG.out.mem H)).mono ?_); rintro e w2 ⟨rfl, hB⟩; replace H := H.next hB; clear hB) | fail)
    go_ret
    exact ⟨rfl, H.toBelow⟩
  case true =>
    have ok : okB c = true := by
      simp only [playB, Bool.and_eq_true] at hpl
      exact hpl.1.1.1
    have hm : memB l2.length = true := by
      rw [hN]
      simp only [playB, Bool.and_eq_true] at hpl
      exact hpl.1.1.2
    have F := fit_from O ok
    have hN0 : 256 ≤ N := by
      have hm' := hm
      rw [hN] at hm'
      simp only [memB, Bool.and_eq_true, decide_eq_true_eq] at hm'
      exact hm'.1.1
    have QS0 := fun wr gr h => step_ct c (.slice a2 N cap2) l2 i n r F ok om2 hm wr gr h
    rw [hN] at QS0
    have QA0 := fun wr gr => kask_ct c F ok wr gr
    have FB := asked_fit F
    have hlt := atM_lt c (l := l2) (by omega)
    have hst := wrote_stays c l2
    have hgw := got_write c l2 (by omega)
    have hwl := wroteM_len c l2
    have ha : (((askedM c).ad.tmod (N : Int))) = (atM c l2 : Int) := by
      have h0 := Int.emod_nonneg (askedM c).ad (show (N : Int) ≠ 0 by omega)
      rw [Int.tmod_eq_emod_of_nonneg FB.ad0]
      unfold atM
      rw [hN]
      omega
    have hg : gotM c l2 = nth (wroteM c l2) (atM c l2) := rfl
    have ht : toldM c l2 = (askedM c).uV (gotM c l2).1 (gotM c l2).2 := rfl
    rw [ht] at QS0
    clear ht
    have a0 : 0 ≤ (askedM c).ad := FB.ad0
    have a1 : (askedM c).ad < 65536 := FB.ad1
    generalize nextM c l2 i n r = d at *
    generalize atM c l2 = k at *
    generalize gotM c l2 = x at *
    generalize wroteM c l2 = l3 at *
    generalize askedM c = b at *
    obtain ⟨ad, wr0, v0, vb, sc⟩ := b
    obtain ⟨x0, xb⟩ := x
    dsimp only [Bs.uV] at ha hst hgw QS0 QA0 a0 a1
    have QS := Lib.hid QS0
    have QA := Lib.hid QA0
    have HST := Lib.hid hst
    have HGW := Lib.hid hgw
    have HGX := Lib.hid hg
    rw [hN] at hlt hwl
    clear QS0 QA0 hst hgw O om om2 hpl F ok hm FB hcp hmx hg
    go_enter Tryz.func5, Tryz.ntmps5
    have M9 : True := trivial
    have M11 : True := trivial
    go_wp2_with (first | (refine wpList_mboxA rfl _ _ rfl H (cpC c) rfl ?_; clear H; intro Rc w1 _ H) | (refine wpList_mboxA rfl _ _ rfl H #[.int .i64 qn, .int .i64 qk, .int .u8 qv, .bool i, .bool n, .bool r] rfl ?_; clear H; intro Rq w1 _ H) | (go_at_call 6; (with_reducible refine (QF.out _ (HR.out.below H.toBelow)).mono ?_); rintro e w2 ⟨rfl, rfl⟩) | (refine gate_load _ _ rfl ?_; refine wpList_mloadA rfl 28 _ rfl _ rfl 1 H (cpC c) rfl (by decide +kernel) (by kernel_rfl) ?_) | (refine gate_load _ _ rfl ?_; refine wpList_mload rfl 31 _ rfl _ _ rfl 0 H _ #[.bool i, .bool n, .bool r] rfl (by decide +kernel) (by kernel_rfl) (lines_part _ _ _ _ _ _) ?_) | (go_at_call 13; (with_reducible refine (QS.out _ (GG.out.mem H) (HR2.out.below H.toBelow)).mono ?_); rintro e w2 ⟨g, cap3, cs3, rfl, hG, hM⟩; replace H := Mem.join H hM; clear hM; simp only [List.cons_append, List.nil_append] at H) | (refine wpList_mnew rfl _ rfl H _ HZC.out ?_; clear H; intro R7 w1 _ H) | (refine wpList_mnew rfl _ rfl H _ HB.out ?_; clear H; (first | (clear M9; intro R9 w1 _ H) | (clear M11; intro R11 w1 _ H))) | (refine gate_store _ _ _ rfl ?_; refine wpList_mstoreA rfl 28 _ _ rfl rfl _ rfl 1 H (cpC _) _ rfl rfl (by kernel_rfl) (by kernel_rfl) (by kernel_rfl) ?_; clear H; intro w1 H; simp only [List.set_cons_zero, List.set_cons_succ] at H) | (refine gate_store _ _ _ rfl ?_; refine wpList_mstoreA rfl 46 _ _ rfl rfl _ rfl 0 H (bsC _) _ rfl rfl (by kernel_rfl) (by kernel_rfl) (by kernel_rfl) ?_; clear H; intro w1 H; simp only [List.set_cons_zero, List.set_cons_succ] at H) | (refine gate_load _ _ rfl ?_; refine wpList_mloadA rfl 28 _ rfl _ rfl 4 H (cpC c) rfl (by decide +kernel) (by kernel_rfl) ?_) | (go_at_call 17; (with_reducible refine (QA.out _ (GG.out.mem H)).mono ?_); rintro e w2 ⟨rfl, hB⟩; replace H := H.next hB; clear hB) | (refine gate_load _ _ rfl ?_; refine wpList_mload1 rfl _ _ rfl _ _ rfl 1 H _ (.int _ _) rfl rfl (by decide +kernel) ?_) | (refine gate_load _ _ rfl ?_; refine wpList_mload1 rfl _ _ rfl _ _ rfl 0 H _ (.int _ _) rfl rfl (by decide +kernel) ?_) | (refine gate_load _ _ rfl ?_; refine wpList_mload1 rfl _ _ rfl _ _ rfl 1 H _ (.bool _) rfl rfl (by decide +kernel) ?_) | (refine gate_load _ _ rfl ?_; refine wpList_mload1 rfl _ _ rfl _ _ rfl 0 H _ (.bool _) rfl rfl (by decide +kernel) ?_) | fail)
    replace H : Mem W.heap.size [] W w1 [(R11, bsC ⟨ad, wr0, v0, vb, sc⟩), (R9, bsC ⟨ad, wr0, x0, xb, sc⟩), (R7, cpC d), (g, cs3), (Rq, #[.int .i64 qn, .int .i64 qk, .int .u8 qv, .bool i, .bool n, .bool r]), (Rc, cpC c)] := H
    go_loopw [13] (fun z wr => ∃ j : Nat, j ≤ N ∧ z = .int .i64 (j : Int) ∧ Mem W.heap.size [] W wr [(R11, bsC ⟨ad, wr0, v0, vb, sc⟩), (R9, bsC ⟨ad, wr0, x0, xb, sc⟩), (R7, cpC d), (g, cs3), (Rq, #[.int .i64 qn, .int .i64 qk, .int .u8 qv, .bool i, .bool n, .bool r]), (Rc, cpC c)]) (fun z _ => N - (intOf z).toNat)
    case atStart => exact ⟨0, Nat.zero_le _, rfl, H⟩
    case round =>
      clear H
      obtain ⟨j, hj, rfl, H⟩ := hrel
      by_cases hlt2 : j < N
      · obtain ⟨hr1, hr2⟩ := row_get hG j (by omega)
        rcases HC2.out with hz | ⟨b, off, rfl, hbb, hcc⟩
        · rw [hz] at hN; simp at hN; omega
        obtain ⟨hc1, hc2⟩ := hcc j (by omega)
        by_cases hjk : j ≠ k ∨ wr0 = false
        · have es := HST.out j hjk
          rw [es] at hr1 hr2
          clear es hcc
          generalize nth l2 j = y at *
          obtain ⟨y0, yb⟩ := y
          dsimp only at hr1 hr2 hc1 hc2
          have hcl : Cells W b (off + j * 2) #[.int .u8 y0, .bool yb] := by
            intro q v hq
            match q, hq with
            | 0, hq => simp at hq; subst hq; exact hc1
            | 1, hq => simp at hq; subst hq; exact hc2
            | q + 2, hq => simp at hq
          clear hc1 hc2
          by_cases hjk2 : j = k
          · have hw0 : wr0 = false := hjk.elim (fun h => absurd hjk2 h) id
            subst hw0
            subst hjk2
            clear hjk
            go_wp2_with fail
            (try simp only [Act.put, List.setIfInBounds_toArray, List.set_cons_succ, List.set_cons_zero])
            (refine wp_region_quiet_below (by kernel_rfl) (by kernel_rfl) ?_)
            (repeat (first | (go_big_quiet_want; refine gate_qload _ _ rfl ?_; refine quiet_mload1 _ _ rfl _ _ rfl 1 H _ (.bool _) rfl rfl (by decide +kernel) ?_; simp only [Act.put, List.setIfInBounds_toArray, List.set_cons_succ, List.set_cons_zero]; go_big_quiet_on) | (go_big_quiet_want; refine gate_qload _ _ rfl ?_; refine quiet_mload 23 _ rfl _ _ rfl 3 H _ #[.int .u8 y0, .bool yb] rfl (by decide +kernel) (by kernel_rfl) (part2 hr1 hr2) ?_; simp only [Act.put, List.setIfInBounds_toArray, List.set_cons_succ, List.set_cons_zero]; go_big_quiet_on) | (go_big_quiet_want; refine gate_qload _ _ rfl ?_; refine quiet_xload 23 _ rfl _ _ rfl H #[.int .u8 y0, .bool yb] hcl hbb (by decide +kernel) (by kernel_rfl) ?_; simp only [Act.put, List.setIfInBounds_toArray, List.set_cons_succ, List.set_cons_zero]; go_big_quiet_on) | (go_big_quiet_want; refine gate_qbin .neq 23 _ _ _ rfl ?_; refine quiet_mbin .neq 23 _ _ _ rfl (.agg #[.int .u8 y0, .bool yb]) (.agg #[.int .u8 y0, .bool yb]) _ rfl rfl (fun w => fb_neqG _ _ _ _ w) ?_; simp only [Act.put, List.setIfInBounds_toArray, List.set_cons_succ, List.set_cons_zero]; go_big_quiet_on) | go_big_quiet_step (fail)))
            (refine wpQuiet_nil ?_)
            intro _ hw9
            obtain ⟨⟨dq, osq⟩, hw8⟩ := hw9
            subst hw8
            replace H := H.next (below_regrown _ dq osq)
            go_wp2_with fail
            go_roundw
            case rel => exact ⟨j + 1, by omega, by go_num, H⟩
            case measure => simp [intOf]; omega
          · have hne : ((j : Int) == (k : Int)) = false := by simp; omega
            have hne2 : ¬ ((j : Int) = (k : Int)) := by omega
            have hne3 : ((j : Int) != (k : Int)) = true := by simp; omega
            have hne4 : (j == k) = false := by simp; omega
            have hne5 : (j != k) = true := by simp; omega
            have hne6 : decide (j = k) = false := by simp; omega
            clear hjk
            go_wp2_with fail
            (try simp only [Act.put, List.setIfInBounds_toArray, List.set_cons_succ, List.set_cons_zero])
            (refine wp_region_quiet_below (by kernel_rfl) (by kernel_rfl) ?_)
            (repeat (first | (go_big_quiet_want; refine gate_qload _ _ rfl ?_; refine quiet_mload 23 _ rfl _ _ rfl 3 H _ #[.int .u8 y0, .bool yb] rfl (by decide +kernel) (by kernel_rfl) (part2 hr1 hr2) ?_; simp only [Act.put, List.setIfInBounds_toArray, List.set_cons_succ, List.set_cons_zero]; go_big_quiet_on) | (go_big_quiet_want; refine gate_qload _ _ rfl ?_; refine quiet_xload 23 _ rfl _ _ rfl H #[.int .u8 y0, .bool yb] hcl hbb (by decide +kernel) (by kernel_rfl) ?_; simp only [Act.put, List.setIfInBounds_toArray, List.set_cons_succ, List.set_cons_zero]; go_big_quiet_on) | (go_big_quiet_want; refine gate_qbin .neq 23 _ _ _ rfl ?_; refine quiet_mbin .neq 23 _ _ _ rfl (.agg #[.int .u8 y0, .bool yb]) (.agg #[.int .u8 y0, .bool yb]) _ rfl rfl (fun w => fb_neqG _ _ _ _ w) ?_; simp only [Act.put, List.setIfInBounds_toArray, List.set_cons_succ, List.set_cons_zero]; go_big_quiet_on) | go_big_quiet_step (fail)))
            (refine wpQuiet_nil ?_)
            intro _ hw9
            obtain ⟨⟨dq, osq⟩, hw8⟩ := hw9
            subst hw8
            replace H := H.next (below_regrown _ dq osq)
            go_wp2_with fail
            go_roundw
            case rel => exact ⟨j + 1, by omega, by go_num, H⟩
            case measure => simp [intOf]; omega
        · have hjk2 : j = k := by
            by_cases e : j = k
            · exact e
            · exact absurd (.inl e) hjk
          have hw0 : wr0 = true := by
            cases wr0
            · exact absurd (.inr rfl) hjk
            · rfl
          subst hw0
          subst hjk2
          clear hjk hr1 hr2 hcc hc1 hc2
          go_wp2_with fail
          (try simp only [Act.put, List.setIfInBounds_toArray, List.set_cons_succ, List.set_cons_zero])
          (refine wp_region_quiet_below (by kernel_rfl) (by kernel_rfl) ?_)
          (repeat (first | (go_big_quiet_want; refine gate_qload _ _ rfl ?_; refine quiet_mload1 _ _ rfl _ _ rfl 1 H _ (.bool _) rfl rfl (by decide +kernel) ?_; simp only [Act.put, List.setIfInBounds_toArray, List.set_cons_succ, List.set_cons_zero]; go_big_quiet_on) | go_big_quiet_step (fail)))
          (refine wpQuiet_nil ?_)
          intro _ hw9
          obtain ⟨⟨dq, osq⟩, hw8⟩ := hw9
          subst hw8
          replace H := H.next (below_regrown _ dq osq)
          go_wp2_with fail
          go_roundw
          case rel => exact ⟨j + 1, by omega, by go_num, H⟩
          case measure => simp [intOf]; omega
      · obtain rfl : j = N := by omega
        obtain ⟨hr1, hr2⟩ := row_get hG k (by omega)
        rw [← HGX.out] at hr1 hr2
        dsimp only at hr1 hr2
        cases wr0
        case false =>
          go_wp2_with fail
          (try simp only [Act.put, List.setIfInBounds_toArray, List.set_cons_succ, List.set_cons_zero])
          (refine wp_region_quiet_below (by kernel_rfl) (by kernel_rfl) ?_)
          (repeat (first | (go_big_quiet_want; refine gate_qload _ _ rfl ?_; refine quiet_mload 23 _ rfl _ _ rfl 3 H _ #[.int .u8 x0, .bool xb] rfl (by decide +kernel) (by kernel_rfl) (part2 hr1 hr2) ?_; simp only [Act.put, List.setIfInBounds_toArray, List.set_cons_succ, List.set_cons_zero]; go_big_quiet_on) | (go_big_quiet_want; refine gate_qload _ _ rfl ?_; refine quiet_mload 23 _ rfl _ _ rfl 1 H _ #[.int .u8 x0, .bool xb] rfl (by decide +kernel) (by kernel_rfl) (part2 rfl rfl) ?_; simp only [Act.put, List.setIfInBounds_toArray, List.set_cons_succ, List.set_cons_zero]; go_big_quiet_on) | (go_big_quiet_want; refine gate_qload _ _ rfl ?_; refine quiet_mload1 _ _ rfl _ _ rfl 1 H _ (.bool _) rfl rfl (by decide +kernel) ?_; simp only [Act.put, List.setIfInBounds_toArray, List.set_cons_succ, List.set_cons_zero]; go_big_quiet_on) | (go_big_quiet_want; refine gate_qbin .eql 23 _ _ _ rfl ?_; refine quiet_mbin .eql 23 _ _ _ rfl (.agg #[.int .u8 x0, .bool xb]) (.agg #[.int .u8 x0, .bool xb]) _ rfl rfl (fun w => fb_eqlG _ _ _ _ w) ?_; simp only [Act.put, List.setIfInBounds_toArray, List.set_cons_succ, List.set_cons_zero]; go_big_quiet_on) | go_big_quiet_step ((go_at_call 8; (with_reducible exact Calls.regrown_of (QW.out _ (GG.out.mem (H.next (below_regrown _ _ _)))))))))
          (refine wpQuiet_nil ?_)
          intro _ hw9
          obtain ⟨⟨dq, osq⟩, hw8⟩ := hw9
          subst hw8
          replace H := H.next (below_regrown _ dq osq)
          go_wp2
          go_ret
          exact ⟨rfl, H.toBelow⟩
        case true =>
          obtain ⟨rfl, rfl⟩ := Prod.mk.inj (HGW.out rfl)
          go_wp2_with fail
          (try simp only [Act.put, List.setIfInBounds_toArray, List.set_cons_succ, List.set_cons_zero])
          (refine wp_region_quiet_below (by kernel_rfl) (by kernel_rfl) ?_)
          (repeat (first | (go_big_quiet_want; refine gate_qload _ _ rfl ?_; refine quiet_mload 23 _ rfl _ _ rfl 3 H _ #[.int .u8 x0, .bool xb] rfl (by decide +kernel) (by kernel_rfl) (part2 hr1 hr2) ?_; simp only [Act.put, List.setIfInBounds_toArray, List.set_cons_succ, List.set_cons_zero]; go_big_quiet_on) | (go_big_quiet_want; refine gate_qload _ _ rfl ?_; refine quiet_mload 23 _ rfl _ _ rfl 1 H _ #[.int .u8 x0, .bool xb] rfl (by decide +kernel) (by kernel_rfl) (part2 rfl rfl) ?_; simp only [Act.put, List.setIfInBounds_toArray, List.set_cons_succ, List.set_cons_zero]; go_big_quiet_on) | (go_big_quiet_want; refine gate_qload _ _ rfl ?_; refine quiet_mload 23 _ rfl _ _ rfl 0 H _ #[.int .u8 x0, .bool xb] rfl (by decide +kernel) (by kernel_rfl) (part2 rfl rfl) ?_; simp only [Act.put, List.setIfInBounds_toArray, List.set_cons_succ, List.set_cons_zero]; go_big_quiet_on) | (go_big_quiet_want; refine gate_qload _ _ rfl ?_; refine quiet_mload1 _ _ rfl _ _ rfl 1 H _ (.bool _) rfl rfl (by decide +kernel) ?_; simp only [Act.put, List.setIfInBounds_toArray, List.set_cons_succ, List.set_cons_zero]; go_big_quiet_on) | (go_big_quiet_want; refine gate_qbin .eql 23 _ _ _ rfl ?_; refine quiet_mbin .eql 23 _ _ _ rfl (.agg #[.int .u8 x0, .bool xb]) (.agg #[.int .u8 x0, .bool xb]) _ rfl rfl (fun w => fb_eqlG _ _ _ _ w) ?_; simp only [Act.put, List.setIfInBounds_toArray, List.set_cons_succ, List.set_cons_zero]; go_big_quiet_on) | go_big_quiet_step ((go_at_call 8; (with_reducible exact Calls.regrown_of (QW.out _ (GG.out.mem (H.next (below_regrown _ _ _)))))))))
          (refine wpQuiet_nil ?_)
          intro _ hw9
          obtain ⟨⟨dq, osq⟩, hw8⟩ := hw9
          subst hw8
          replace H := H.next (below_regrown _ dq osq)
          go_wp2
          go_ret
          exact ⟨rfl, H.toBelow⟩
end Go.Proofs.YtcgnnbgknaamdaaGreatDoor
