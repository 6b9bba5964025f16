/-
  The document's May and Address; numbers are of their kinds. Over this seat's translation; no condition. (Written by gen_sp.py.)
-/
import Derived.Test.YtphnpahjofacfaaSpg
namespace Go.Proofs.Ytphnpahjofacfaa
open Go.RowKit Go.Sort
set_option linter.unusedSimpArgs false
set_option linter.unusedVariables false
set_option maxRecDepth 20000

def mayS (n : Nat) (i line : Int) : Bool := decide (n = 256) && oneS i && lineB line
theorem mayS_iff (n : Nat) (i line : Int) : mayS n i line = true ↔ n = 256 ∧ (0 ≤ i ∧ i < 64) ∧ (0 ≤ line ∧ line < 256) := by
  unfold mayS oneS lineB
  simp only [Bool.and_eq_true, decide_eq_true_eq, and_assoc]
attribute [local irreducible] wpList
set_option maxHeartbeats 2000000 in
theorem rmay15_yes (a : Option Addr) (n cap : Nat) (i line : Int) (h : mayS n i line = true) (w : World) : Calls Try.prog 12 #[.slice a n cap, .int .i64 i, .int .i64 line] w fun e w' => e = .returned (.bool true) ∧ Below w.heap.size w w' := by
  rw [mayS_iff] at h
  obtain ⟨rfl, ⟨i0, i1⟩, ⟨l0, l1⟩⟩ := h
  have i2 : i ≤ 63 := by omega
  have l2 : line ≤ 255 := by omega
  go_enter Try.func12, Try.ntmps12
  go_wp2
  go_ret
  exact ⟨rfl, Below.refl _ _⟩
set_option maxHeartbeats 2000000 in
theorem rmay15_no (a : Option Addr) (n cap : Nat) (i line : Int) (h : mayS n i line = false) (w : World) : Calls Try.prog 12 #[.slice a n cap, .int .i64 i, .int .i64 line] w fun e w' => e = .returned (.bool false) ∧ Below w.heap.size w w' := by
  by_cases hn : n = 256
  · subst hn
    by_cases i0 : 0 ≤ i
    · by_cases i1 : i ≤ 63
      · by_cases l0 : 0 ≤ line
        · by_cases l1 : line ≤ 255
          · have : mayS 256 i line = true := (mayS_iff _ _ _).2 ⟨rfl, ⟨i0, by omega⟩, ⟨l0, by omega⟩⟩
            rw [h] at this
            cases this
          · clear h
            go_enter Try.func12, Try.ntmps12
            go_wp2
            go_ret
            exact ⟨rfl, Below.refl _ _⟩
        · clear h
          go_enter Try.func12, Try.ntmps12
          go_wp2
          go_ret
          exact ⟨rfl, Below.refl _ _⟩
      · clear h
        go_enter Try.func12, Try.ntmps12
        go_wp2
        go_ret
        exact ⟨rfl, Below.refl _ _⟩
    · clear h
      go_enter Try.func12, Try.ntmps12
      go_wp2
      go_ret
      exact ⟨rfl, Below.refl _ _⟩
  · clear h
    have e : ((n : Int) == 256) = false := beq_eq_false_iff_ne.2 (by omega)
    have e2 : decide ((n : Int) = 256) = false := decide_eq_false (by omega)
    go_enter Try.func12, Try.ntmps12
    go_wp2
    go_ret
    exact ⟨by first | rfl | (simp only [go_sem]; rfl) | simp, Below.refl _ _⟩
theorem rmay15_ct (a : Option Addr) (n cap : Nat) (i line : Int) (w : World) : Calls Try.prog 12 #[.slice a n cap, .int .i64 i, .int .i64 line] w fun e w' => e = .returned (.bool (mayS n i line)) ∧ Below w.heap.size w w' := by
  cases h : mayS n i line
  · exact rmay15_no a n cap i line h w
  · exact rmay15_yes a n cap i line h w
theorem run_alloc_bs (o : Oper) (h : o.op = .alloc 24) (ρ : Operand → Value) (w : World) : (execOp ρ o).run Try.prog w = .ok (.value (ptrTo w.heap.size)) (w.alloc (.cells #[.int .u8 0, .bool false] 24)) := by
  unfold execOp
  rw [h]
  kernel_rfl
set_option maxHeartbeats 8000000 in
theorem raddr_ct (b off cap i : Nat) (line : Int) (tl tb : Bool) (l : List (Int × Bool)) (w : World) (hL : Ls w b off l) (hl : l.length = 256) (hb : bytS l) (hi : i < 64) (hc : 256 ≤ cap) (hm : cap ≤ maxLen) (l0 : 0 ≤ line) (l1 : line < 256) :
    Calls Try.prog 15 #[.slice (some ⟨b, off, none⟩) 256 cap, .int .i64 (i : Int), .int .i64 line, .bool tl, .bool tb] w fun e w' => e = .returned (.tuple #[.int .u16 (adrL l i line tl tb), .bool (secA l i)]) ∧ Below w.heap.size w w' := by
  unfold maxLen at hm
  have HLT : b < w.heap.size := hL.lt
  obtain ⟨a0, a1⟩ := hL.at_ (4 * i) (by omega)
  obtain ⟨b0, b1⟩ := hL.at_ (4 * i + 1) (by omega)
  obtain ⟨c0, c1⟩ := hL.at_ (4 * i + 2) (by omega)
  obtain ⟨y0, y1⟩ := hb (4 * i) (by omega)
  obtain ⟨t0, t1⟩ := hb (4 * i + 1) (by omega)
  obtain ⟨k0, k1⟩ := hb (4 * i + 2) (by omega)
  have HC0 := Lib.hid (cells2 a0 a1)
  have HC1 := Lib.hid (cells2 b0 b1)
  have HC2 := Lib.hid (cells2 c0 c1)
  clear a0 a1 b0 b1 c0 c1 hL hb
  unfold adrL secA
  generalize (nth l (4 * i)).1 = y at *
  generalize (nth l (4 * i)).2 = ys at *
  generalize (nth l (4 * i + 1)).1 = t at *
  generalize (nth l (4 * i + 1)).2 = ts at *
  generalize (nth l (4 * i + 2)).1 = k at *
  generalize (nth l (4 * i + 2)).2 = ks at *
  have QH := Lib.hid (fun wr => rlines15_ct tl wr)
  have H := Mem.start w
  have hE : adrS line y t k tl tb = if tl = true then t % 2 * 4096 + 16 * (t - t % 2) + (if rwS line y k tl < 8 then rwS line y k tl else rwS line y k tl + 8) else (if tb = true then 4096 else 0) + 16 * t + rwS line y k tl := rfl
  rw [hE]
  clear hE
  have a2 : t.tmod 2 = t % 2 := Int.tmod_eq_emod_of_nonneg t0
  have RG : ∀ h : Int, (line + 256 - y).tmod h = (line + 256 - y) % h := fun h => Int.tmod_eq_emod_of_nonneg (by omega)
  unfold rwS
  cases tl
  · have QH := Lib.hid (show ∀ wr : World, Calls Try.prog 31 #[.bool false] wr fun e w' => e = .returned (.int .i64 8) ∧ Below wr.heap.size wr w' from fun wr => rlines15_ct false wr)
    have r0 := RG 8
    have r1 : (line + 256 - y) % 8 = (line - y) % 8 := by omega
    rw [r1] at r0
    show Calls _ _ _ _ fun e w' => e = .returned (.tuple #[.int .u16 (if false = true then t % 2 * 4096 + 16 * (t - t % 2) + (if (if k < 128 then (line - y) % 8 else 8 - 1 - (line - y) % 8) < 8 then (if k < 128 then (line - y) % 8 else 8 - 1 - (line - y) % 8) else (if k < 128 then (line - y) % 8 else 8 - 1 - (line - y) % 8) + 8) else (if tb = true then 4096 else 0) + 16 * t + (if k < 128 then (line - y) % 8 else 8 - 1 - (line - y) % 8)), _]) ∧ _
    have r2 : 0 ≤ (line - y) % 8 ∧ (line - y) % 8 < 8 := by omega
    clear r1 RG
    generalize (line - y) % 8 = r at *
    by_cases hk : k < 128
    · simp only [if_pos hk]
      cases tb
      all_goals
        go_enter Try.func15, Try.ntmps15
        go_wp2_with fail
        (try simp only [Act.put, List.setIfInBounds_toArray, List.set_cons_succ, List.set_cons_zero])
        (refine wp_region_mem 99 [⟨17, 20, 99, ptrTo, #[.int .u8 0, .bool false], #[.int .u8 y, .bool ys], undef⟩, ⟨18, 21, 99, ptrTo, #[.int .u8 0, .bool false], #[.int .u8 t, .bool ts], undef⟩, ⟨19, 22, 99, ptrTo, #[.int .u8 0, .bool false], #[.int .u8 k, .bool ks], undef⟩] (by kernel_rfl) (by kernel_rfl) (by rfl) (by kernel_rfl) (fun _ => by kernel_rfl) (by simp) H fun β wy hwy => ?_); have H0 := H; replace H := H.next hwy; (simp only [swapL, swapO, List.find?_cons, List.find?_nil, Nat.reduceBEq, Nat.reduceAdd]); (repeat (first | (go_big_quiet_want; refine gate_qload _ _ rfl ?_; refine quiet_xload 24 _ rfl b (off + 4 * i * 2) rfl H #[.int .u8 y, .bool ys] HC0.out HLT (by decide +kernel) (by kernel_rfl) ?_; simp only [Act.put, List.setIfInBounds_toArray, List.set_cons_succ, List.set_cons_zero]; go_big_quiet_on) | (go_big_quiet_want; refine gate_qload _ _ rfl ?_; refine quiet_xload 24 _ rfl b (off + (4 * i + 1) * 2) rfl H #[.int .u8 t, .bool ts] HC1.out HLT (by decide +kernel) (by kernel_rfl) ?_; simp only [Act.put, List.setIfInBounds_toArray, List.set_cons_succ, List.set_cons_zero]; go_big_quiet_on) | (go_big_quiet_want; refine gate_qload _ _ rfl ?_; refine quiet_xload 24 _ rfl b (off + (4 * i + 2) * 2) rfl H #[.int .u8 k, .bool ks] HC2.out HLT (by decide +kernel) (by kernel_rfl) ?_; simp only [Act.put, List.setIfInBounds_toArray, List.set_cons_succ, List.set_cons_zero]; go_big_quiet_on) | (go_big_quiet_want; refine gate_qload _ _ rfl ?_; (first | (refine quiet_mloadA _ _ rfl _ rfl 0 H _ rfl (by decide +kernel) (by kernel_rfl) ?_) | (refine quiet_mload1 _ _ rfl _ _ rfl 0 H _ (.int _ _) rfl rfl (by decide +kernel) ?_) | (refine quiet_mload1 _ _ rfl _ _ rfl 0 H _ (.bool _) rfl rfl (by decide +kernel) ?_) | (refine quiet_mload1 _ _ rfl _ _ rfl 0 H _ (.pointer _) rfl rfl (by decide +kernel) ?_) | (refine quiet_mload1 _ _ rfl _ _ rfl 0 H _ (.string _) rfl rfl (by decide +kernel) ?_) | (refine quiet_mload1 _ _ rfl _ _ rfl 0 H _ (.slice _ _ _) rfl rfl (by decide +kernel) ?_)); simp only [Act.put, List.setIfInBounds_toArray, List.set_cons_succ, List.set_cons_zero]; go_big_quiet_on) | go_big_quiet_step (fail))); (refine wpQuiet_nil ?_); (refine ⟨⟨⟨⟨_, run_alloc_bs _ rfl _⟩, ⟨rfl, by kernel_rfl, rfl, by kernel_rfl, fun _ => rfl⟩, trivial⟩, ⟨⟨_, run_alloc_bs _ rfl _⟩, ⟨rfl, by kernel_rfl, rfl, by kernel_rfl, fun _ => rfl⟩, trivial⟩, ⟨⟨_, run_alloc_bs _ rfl _⟩, ⟨rfl, by kernel_rfl, rfl, by kernel_rfl, fun _ => rfl⟩, trivial⟩, trivial⟩, fun wx HM => ?_⟩); clear H; have H := HM; clear HM H0 hwy; (dsimp only [boxesL, List.cons_append, List.nil_append] at H); (try dsimp only [ptrTo]); (try generalize hq0 : β 17 = q0 at *); (try generalize hq1 : β 18 = q1 at *); (try generalize hq2 : β 19 = q2 at *)
        go_wp2_with (first | (go_at_call 31; (with_reducible refine (QH.out _).mono ?_); rintro e w2 ⟨rfl, hB⟩; replace H := H.next hB; clear hB) | (refine gate_load _ _ rfl ?_; refine wpList_mload1 rfl 5 _ rfl _ _ rfl 0 H _ (.int .u8 _) rfl rfl (by decide +kernel) ?_) | (refine gate_load _ _ rfl ?_; refine wpList_mload1 rfl 5 _ rfl _ _ rfl 1 H _ (.int .u8 _) rfl rfl (by decide +kernel) ?_) | (refine gate_load _ _ rfl ?_; refine wpList_mload1 rfl 5 _ rfl _ _ rfl 2 H _ (.int .u8 _) rfl rfl (by decide +kernel) ?_) | (refine gate_load _ _ rfl ?_; refine wpList_mload1 rfl 4 _ rfl _ _ rfl 0 H _ (.bool _) rfl rfl (by decide +kernel) ?_) | (refine gate_load _ _ rfl ?_; refine wpList_mload1 rfl 4 _ rfl _ _ rfl 1 H _ (.bool _) rfl rfl (by decide +kernel) ?_) | (refine gate_load _ _ rfl ?_; refine wpList_mload1 rfl 4 _ rfl _ _ rfl 2 H _ (.bool _) rfl rfl (by decide +kernel) ?_) | fail)
        all_goals go_ret2
        all_goals exact ⟨by first | rfl | (show Ending.returned (.tuple #[.int .u16 _, .bool _]) = _; (try simp only [Bool.false_eq_true, if_true, if_false, Bool.true_or, Bool.false_or]); (try simp only [if_pos, if_neg, *]); congr 3 <;> first | rfl | omega | (congr 2; omega)), H.toBelow⟩
    · simp only [if_neg hk]
      cases tb
      all_goals
        go_enter Try.func15, Try.ntmps15
        go_wp2_with fail
        (try simp only [Act.put, List.setIfInBounds_toArray, List.set_cons_succ, List.set_cons_zero])
        (refine wp_region_mem 99 [⟨17, 20, 99, ptrTo, #[.int .u8 0, .bool false], #[.int .u8 y, .bool ys], undef⟩, ⟨18, 21, 99, ptrTo, #[.int .u8 0, .bool false], #[.int .u8 t, .bool ts], undef⟩, ⟨19, 22, 99, ptrTo, #[.int .u8 0, .bool false], #[.int .u8 k, .bool ks], undef⟩] (by kernel_rfl) (by kernel_rfl) (by rfl) (by kernel_rfl) (fun _ => by kernel_rfl) (by simp) H fun β wy hwy => ?_); have H0 := H; replace H := H.next hwy; (simp only [swapL, swapO, List.find?_cons, List.find?_nil, Nat.reduceBEq, Nat.reduceAdd]); (repeat (first | (go_big_quiet_want; refine gate_qload _ _ rfl ?_; refine quiet_xload 24 _ rfl b (off + 4 * i * 2) rfl H #[.int .u8 y, .bool ys] HC0.out HLT (by decide +kernel) (by kernel_rfl) ?_; simp only [Act.put, List.setIfInBounds_toArray, List.set_cons_succ, List.set_cons_zero]; go_big_quiet_on) | (go_big_quiet_want; refine gate_qload _ _ rfl ?_; refine quiet_xload 24 _ rfl b (off + (4 * i + 1) * 2) rfl H #[.int .u8 t, .bool ts] HC1.out HLT (by decide +kernel) (by kernel_rfl) ?_; simp only [Act.put, List.setIfInBounds_toArray, List.set_cons_succ, List.set_cons_zero]; go_big_quiet_on) | (go_big_quiet_want; refine gate_qload _ _ rfl ?_; refine quiet_xload 24 _ rfl b (off + (4 * i + 2) * 2) rfl H #[.int .u8 k, .bool ks] HC2.out HLT (by decide +kernel) (by kernel_rfl) ?_; simp only [Act.put, List.setIfInBounds_toArray, List.set_cons_succ, List.set_cons_zero]; go_big_quiet_on) | (go_big_quiet_want; refine gate_qload _ _ rfl ?_; (first | (refine quiet_mloadA _ _ rfl _ rfl 0 H _ rfl (by decide +kernel) (by kernel_rfl) ?_) | (refine quiet_mload1 _ _ rfl _ _ rfl 0 H _ (.int _ _) rfl rfl (by decide +kernel) ?_) | (refine quiet_mload1 _ _ rfl _ _ rfl 0 H _ (.bool _) rfl rfl (by decide +kernel) ?_) | (refine quiet_mload1 _ _ rfl _ _ rfl 0 H _ (.pointer _) rfl rfl (by decide +kernel) ?_) | (refine quiet_mload1 _ _ rfl _ _ rfl 0 H _ (.string _) rfl rfl (by decide +kernel) ?_) | (refine quiet_mload1 _ _ rfl _ _ rfl 0 H _ (.slice _ _ _) rfl rfl (by decide +kernel) ?_)); simp only [Act.put, List.setIfInBounds_toArray, List.set_cons_succ, List.set_cons_zero]; go_big_quiet_on) | go_big_quiet_step (fail))); (refine wpQuiet_nil ?_); (refine ⟨⟨⟨⟨_, run_alloc_bs _ rfl _⟩, ⟨rfl, by kernel_rfl, rfl, by kernel_rfl, fun _ => rfl⟩, trivial⟩, ⟨⟨_, run_alloc_bs _ rfl _⟩, ⟨rfl, by kernel_rfl, rfl, by kernel_rfl, fun _ => rfl⟩, trivial⟩, ⟨⟨_, run_alloc_bs _ rfl _⟩, ⟨rfl, by kernel_rfl, rfl, by kernel_rfl, fun _ => rfl⟩, trivial⟩, trivial⟩, fun wx HM => ?_⟩); clear H; have H := HM; clear HM H0 hwy; (dsimp only [boxesL, List.cons_append, List.nil_append] at H); (try dsimp only [ptrTo]); (try generalize hq0 : β 17 = q0 at *); (try generalize hq1 : β 18 = q1 at *); (try generalize hq2 : β 19 = q2 at *)
        go_wp2_with (first | (go_at_call 31; (with_reducible refine (QH.out _).mono ?_); rintro e w2 ⟨rfl, hB⟩; replace H := H.next hB; clear hB) | (refine gate_load _ _ rfl ?_; refine wpList_mload1 rfl 5 _ rfl _ _ rfl 0 H _ (.int .u8 _) rfl rfl (by decide +kernel) ?_) | (refine gate_load _ _ rfl ?_; refine wpList_mload1 rfl 5 _ rfl _ _ rfl 1 H _ (.int .u8 _) rfl rfl (by decide +kernel) ?_) | (refine gate_load _ _ rfl ?_; refine wpList_mload1 rfl 5 _ rfl _ _ rfl 2 H _ (.int .u8 _) rfl rfl (by decide +kernel) ?_) | (refine gate_load _ _ rfl ?_; refine wpList_mload1 rfl 4 _ rfl _ _ rfl 0 H _ (.bool _) rfl rfl (by decide +kernel) ?_) | (refine gate_load _ _ rfl ?_; refine wpList_mload1 rfl 4 _ rfl _ _ rfl 1 H _ (.bool _) rfl rfl (by decide +kernel) ?_) | (refine gate_load _ _ rfl ?_; refine wpList_mload1 rfl 4 _ rfl _ _ rfl 2 H _ (.bool _) rfl rfl (by decide +kernel) ?_) | fail)
        all_goals go_ret2
        all_goals exact ⟨by first | rfl | (show Ending.returned (.tuple #[.int .u16 _, .bool _]) = _; (try simp only [Bool.false_eq_true, if_true, if_false, Bool.true_or, Bool.false_or]); (try simp only [if_pos, if_neg, *]); congr 3 <;> first | rfl | omega | (congr 2; omega)), H.toBelow⟩
  · have QH := Lib.hid (show ∀ wr : World, Calls Try.prog 31 #[.bool true] wr fun e w' => e = .returned (.int .i64 16) ∧ Below wr.heap.size wr w' from fun wr => rlines15_ct true wr)
    have r0 := RG 16
    have r1 : (line + 256 - y) % 16 = (line - y) % 16 := by omega
    rw [r1] at r0
    show Calls _ _ _ _ fun e w' => e = .returned (.tuple #[.int .u16 (if true = true then t % 2 * 4096 + 16 * (t - t % 2) + (if (if k < 128 then (line - y) % 16 else 16 - 1 - (line - y) % 16) < 8 then (if k < 128 then (line - y) % 16 else 16 - 1 - (line - y) % 16) else (if k < 128 then (line - y) % 16 else 16 - 1 - (line - y) % 16) + 8) else (if tb = true then 4096 else 0) + 16 * t + (if k < 128 then (line - y) % 16 else 16 - 1 - (line - y) % 16)), _]) ∧ _
    have r2 : 0 ≤ (line - y) % 16 ∧ (line - y) % 16 < 16 := by omega
    clear r1 RG
    generalize (line - y) % 16 = r at *
    by_cases hk : k < 128
    · simp only [if_pos hk]
      obtain ⟨m, hm2⟩ : ∃ m, t % 2 = m := ⟨_, rfl⟩
      rw [hm2] at a2 ⊢
      by_cases h8 : r < 8
      all_goals
        go_enter Try.func15, Try.ntmps15
        go_wp2_with fail
        (try simp only [Act.put, List.setIfInBounds_toArray, List.set_cons_succ, List.set_cons_zero])
        (refine wp_region_mem 99 [⟨17, 20, 99, ptrTo, #[.int .u8 0, .bool false], #[.int .u8 y, .bool ys], undef⟩, ⟨18, 21, 99, ptrTo, #[.int .u8 0, .bool false], #[.int .u8 t, .bool ts], undef⟩, ⟨19, 22, 99, ptrTo, #[.int .u8 0, .bool false], #[.int .u8 k, .bool ks], undef⟩] (by kernel_rfl) (by kernel_rfl) (by rfl) (by kernel_rfl) (fun _ => by kernel_rfl) (by simp) H fun β wy hwy => ?_); have H0 := H; replace H := H.next hwy; (simp only [swapL, swapO, List.find?_cons, List.find?_nil, Nat.reduceBEq, Nat.reduceAdd]); (repeat (first | (go_big_quiet_want; refine gate_qload _ _ rfl ?_; refine quiet_xload 24 _ rfl b (off + 4 * i * 2) rfl H #[.int .u8 y, .bool ys] HC0.out HLT (by decide +kernel) (by kernel_rfl) ?_; simp only [Act.put, List.setIfInBounds_toArray, List.set_cons_succ, List.set_cons_zero]; go_big_quiet_on) | (go_big_quiet_want; refine gate_qload _ _ rfl ?_; refine quiet_xload 24 _ rfl b (off + (4 * i + 1) * 2) rfl H #[.int .u8 t, .bool ts] HC1.out HLT (by decide +kernel) (by kernel_rfl) ?_; simp only [Act.put, List.setIfInBounds_toArray, List.set_cons_succ, List.set_cons_zero]; go_big_quiet_on) | (go_big_quiet_want; refine gate_qload _ _ rfl ?_; refine quiet_xload 24 _ rfl b (off + (4 * i + 2) * 2) rfl H #[.int .u8 k, .bool ks] HC2.out HLT (by decide +kernel) (by kernel_rfl) ?_; simp only [Act.put, List.setIfInBounds_toArray, List.set_cons_succ, List.set_cons_zero]; go_big_quiet_on) | (go_big_quiet_want; refine gate_qload _ _ rfl ?_; (first | (refine quiet_mloadA _ _ rfl _ rfl 0 H _ rfl (by decide +kernel) (by kernel_rfl) ?_) | (refine quiet_mload1 _ _ rfl _ _ rfl 0 H _ (.int _ _) rfl rfl (by decide +kernel) ?_) | (refine quiet_mload1 _ _ rfl _ _ rfl 0 H _ (.bool _) rfl rfl (by decide +kernel) ?_) | (refine quiet_mload1 _ _ rfl _ _ rfl 0 H _ (.pointer _) rfl rfl (by decide +kernel) ?_) | (refine quiet_mload1 _ _ rfl _ _ rfl 0 H _ (.string _) rfl rfl (by decide +kernel) ?_) | (refine quiet_mload1 _ _ rfl _ _ rfl 0 H _ (.slice _ _ _) rfl rfl (by decide +kernel) ?_)); simp only [Act.put, List.setIfInBounds_toArray, List.set_cons_succ, List.set_cons_zero]; go_big_quiet_on) | go_big_quiet_step (fail))); (refine wpQuiet_nil ?_); (refine ⟨⟨⟨⟨_, run_alloc_bs _ rfl _⟩, ⟨rfl, by kernel_rfl, rfl, by kernel_rfl, fun _ => rfl⟩, trivial⟩, ⟨⟨_, run_alloc_bs _ rfl _⟩, ⟨rfl, by kernel_rfl, rfl, by kernel_rfl, fun _ => rfl⟩, trivial⟩, ⟨⟨_, run_alloc_bs _ rfl _⟩, ⟨rfl, by kernel_rfl, rfl, by kernel_rfl, fun _ => rfl⟩, trivial⟩, trivial⟩, fun wx HM => ?_⟩); clear H; have H := HM; clear HM H0 hwy; (dsimp only [boxesL, List.cons_append, List.nil_append] at H); (try dsimp only [ptrTo]); (try generalize hq0 : β 17 = q0 at *); (try generalize hq1 : β 18 = q1 at *); (try generalize hq2 : β 19 = q2 at *)
        go_wp2_with (first | (go_at_call 31; (with_reducible refine (QH.out _).mono ?_); rintro e w2 ⟨rfl, hB⟩; replace H := H.next hB; clear hB) | (refine gate_load _ _ rfl ?_; refine wpList_mload1 rfl 5 _ rfl _ _ rfl 0 H _ (.int .u8 _) rfl rfl (by decide +kernel) ?_) | (refine gate_load _ _ rfl ?_; refine wpList_mload1 rfl 5 _ rfl _ _ rfl 1 H _ (.int .u8 _) rfl rfl (by decide +kernel) ?_) | (refine gate_load _ _ rfl ?_; refine wpList_mload1 rfl 5 _ rfl _ _ rfl 2 H _ (.int .u8 _) rfl rfl (by decide +kernel) ?_) | (refine gate_load _ _ rfl ?_; refine wpList_mload1 rfl 4 _ rfl _ _ rfl 0 H _ (.bool _) rfl rfl (by decide +kernel) ?_) | (refine gate_load _ _ rfl ?_; refine wpList_mload1 rfl 4 _ rfl _ _ rfl 1 H _ (.bool _) rfl rfl (by decide +kernel) ?_) | (refine gate_load _ _ rfl ?_; refine wpList_mload1 rfl 4 _ rfl _ _ rfl 2 H _ (.bool _) rfl rfl (by decide +kernel) ?_) | fail)
        all_goals go_ret2
        all_goals exact ⟨by first | rfl | (show Ending.returned (.tuple #[.int .u16 _, .bool _]) = _; (try simp only [Bool.false_eq_true, if_true, if_false, Bool.true_or, Bool.false_or]); (try simp only [if_pos, if_neg, *]); congr 3 <;> first | rfl | omega | (congr 2; omega)), H.toBelow⟩
    · simp only [if_neg hk]
      obtain ⟨m, hm2⟩ : ∃ m, t % 2 = m := ⟨_, rfl⟩
      rw [hm2] at a2 ⊢
      by_cases h8 : 16 - 1 - r < 8
      all_goals
        go_enter Try.func15, Try.ntmps15
        go_wp2_with fail
        (try simp only [Act.put, List.setIfInBounds_toArray, List.set_cons_succ, List.set_cons_zero])
        (refine wp_region_mem 99 [⟨17, 20, 99, ptrTo, #[.int .u8 0, .bool false], #[.int .u8 y, .bool ys], undef⟩, ⟨18, 21, 99, ptrTo, #[.int .u8 0, .bool false], #[.int .u8 t, .bool ts], undef⟩, ⟨19, 22, 99, ptrTo, #[.int .u8 0, .bool false], #[.int .u8 k, .bool ks], undef⟩] (by kernel_rfl) (by kernel_rfl) (by rfl) (by kernel_rfl) (fun _ => by kernel_rfl) (by simp) H fun β wy hwy => ?_); have H0 := H; replace H := H.next hwy; (simp only [swapL, swapO, List.find?_cons, List.find?_nil, Nat.reduceBEq, Nat.reduceAdd]); (repeat (first | (go_big_quiet_want; refine gate_qload _ _ rfl ?_; refine quiet_xload 24 _ rfl b (off + 4 * i * 2) rfl H #[.int .u8 y, .bool ys] HC0.out HLT (by decide +kernel) (by kernel_rfl) ?_; simp only [Act.put, List.setIfInBounds_toArray, List.set_cons_succ, List.set_cons_zero]; go_big_quiet_on) | (go_big_quiet_want; refine gate_qload _ _ rfl ?_; refine quiet_xload 24 _ rfl b (off + (4 * i + 1) * 2) rfl H #[.int .u8 t, .bool ts] HC1.out HLT (by decide +kernel) (by kernel_rfl) ?_; simp only [Act.put, List.setIfInBounds_toArray, List.set_cons_succ, List.set_cons_zero]; go_big_quiet_on) | (go_big_quiet_want; refine gate_qload _ _ rfl ?_; refine quiet_xload 24 _ rfl b (off + (4 * i + 2) * 2) rfl H #[.int .u8 k, .bool ks] HC2.out HLT (by decide +kernel) (by kernel_rfl) ?_; simp only [Act.put, List.setIfInBounds_toArray, List.set_cons_succ, List.set_cons_zero]; go_big_quiet_on) | (go_big_quiet_want; refine gate_qload _ _ rfl ?_; (first | (refine quiet_mloadA _ _ rfl _ rfl 0 H _ rfl (by decide +kernel) (by kernel_rfl) ?_) | (refine quiet_mload1 _ _ rfl _ _ rfl 0 H _ (.int _ _) rfl rfl (by decide +kernel) ?_) | (refine quiet_mload1 _ _ rfl _ _ rfl 0 H _ (.bool _) rfl rfl (by decide +kernel) ?_) | (refine quiet_mload1 _ _ rfl _ _ rfl 0 H _ (.pointer _) rfl rfl (by decide +kernel) ?_) | (refine quiet_mload1 _ _ rfl _ _ rfl 0 H _ (.string _) rfl rfl (by decide +kernel) ?_) | (refine quiet_mload1 _ _ rfl _ _ rfl 0 H _ (.slice _ _ _) rfl rfl (by decide +kernel) ?_)); simp only [Act.put, List.setIfInBounds_toArray, List.set_cons_succ, List.set_cons_zero]; go_big_quiet_on) | go_big_quiet_step (fail))); (refine wpQuiet_nil ?_); (refine ⟨⟨⟨⟨_, run_alloc_bs _ rfl _⟩, ⟨rfl, by kernel_rfl, rfl, by kernel_rfl, fun _ => rfl⟩, trivial⟩, ⟨⟨_, run_alloc_bs _ rfl _⟩, ⟨rfl, by kernel_rfl, rfl, by kernel_rfl, fun _ => rfl⟩, trivial⟩, ⟨⟨_, run_alloc_bs _ rfl _⟩, ⟨rfl, by kernel_rfl, rfl, by kernel_rfl, fun _ => rfl⟩, trivial⟩, trivial⟩, fun wx HM => ?_⟩); clear H; have H := HM; clear HM H0 hwy; (dsimp only [boxesL, List.cons_append, List.nil_append] at H); (try dsimp only [ptrTo]); (try generalize hq0 : β 17 = q0 at *); (try generalize hq1 : β 18 = q1 at *); (try generalize hq2 : β 19 = q2 at *)
        go_wp2_with (first | (go_at_call 31; (with_reducible refine (QH.out _).mono ?_); rintro e w2 ⟨rfl, hB⟩; replace H := H.next hB; clear hB) | (refine gate_load _ _ rfl ?_; refine wpList_mload1 rfl 5 _ rfl _ _ rfl 0 H _ (.int .u8 _) rfl rfl (by decide +kernel) ?_) | (refine gate_load _ _ rfl ?_; refine wpList_mload1 rfl 5 _ rfl _ _ rfl 1 H _ (.int .u8 _) rfl rfl (by decide +kernel) ?_) | (refine gate_load _ _ rfl ?_; refine wpList_mload1 rfl 5 _ rfl _ _ rfl 2 H _ (.int .u8 _) rfl rfl (by decide +kernel) ?_) | (refine gate_load _ _ rfl ?_; refine wpList_mload1 rfl 4 _ rfl _ _ rfl 0 H _ (.bool _) rfl rfl (by decide +kernel) ?_) | (refine gate_load _ _ rfl ?_; refine wpList_mload1 rfl 4 _ rfl _ _ rfl 1 H _ (.bool _) rfl rfl (by decide +kernel) ?_) | (refine gate_load _ _ rfl ?_; refine wpList_mload1 rfl 4 _ rfl _ _ rfl 2 H _ (.bool _) rfl rfl (by decide +kernel) ?_) | fail)
        all_goals go_ret2
        all_goals exact ⟨by first | rfl | (show Ending.returned (.tuple #[.int .u16 _, .bool _]) = _; (try simp only [Bool.false_eq_true, if_true, if_false, Bool.true_or, Bool.false_or]); (try simp only [if_pos, if_neg, *]); congr 3 <;> first | rfl | omega | (congr 2; omega)), H.toBelow⟩
end Go.Proofs.Ytphnpahjofacfaa
