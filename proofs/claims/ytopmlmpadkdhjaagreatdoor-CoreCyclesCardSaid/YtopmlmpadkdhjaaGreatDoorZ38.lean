/-
  Several texts in one: what is read and written by the functions on the way to the statements. Conditions stand in each theorem.
-/
import Derived.Test.YtopmlmpadkdhjaaGreatDoorZ37
import Derived.Test.YtopmlmpadkdhjaaGreatDoorZ06
namespace Go.Proofs.YtopmlmpadkdhjaaGreatDoor
open Go.RowKit
set_option linter.unusedSimpArgs false
set_option linter.unusedVariables false
set_option maxRecDepth 20000

theorem has_and (p : Int) (h0 : 0 ≤ p) (h1 : p < 256) : (hasV (clr p) 128 = decide (0 < bits .and .u8 p 128) ∧ hasV (clr p) 64 = decide (0 < bits .and .u8 p 64)) ∧ (hasV (clr p) 1 = decide (0 < bits .and .u8 p 1) ∧ hasV (clr p) 2 = decide (0 < bits .and .u8 p 2)) :=
  byte_all (p := fun p => (hasV (clr p) 128 = decide (0 < bits .and .u8 p 128) ∧ hasV (clr p) 64 = decide (0 < bits .and .u8 p 64)) ∧ (hasV (clr p) 1 = decide (0 < bits .and .u8 p 1) ∧ hasV (clr p) 2 = decide (0 < bits .and .u8 p 2))) (by decide +kernel) p h0 h1
theorem has_flag (p op : Int) (h0 : 0 ≤ p) (h1 : p < 256) : hasV (clr p) (flagB op) = decide (0 < bits .and .u8 p (flagB op)) := by
  obtain ⟨⟨a, b⟩, c, d⟩ := has_and p h0 h1
  unfold flagB
  split
  · exact a
  · split
    · exact b
    · split
      · exact c
      · exact d
theorem cyc_ten (op : Int) (h0 : 0 ≤ op) (h1 : op < 256) : cycV (modeV op) (useV op) ≤ 9 := byte_all (p := fun op => cycV (modeV op) (useV op) ≤ 9) (by decide +kernel) op h0 h1
attribute [local irreducible] wpList
theorem cycE_yes {c : Cp} {op v : Int} {N : Nat} (h : N ≤ 10) : cycE c op v N = .tuple #[.int .i64 N, .agg (cpC (itM c op v N)), .bool true] := if_pos h
theorem cycE_no {c : Cp} {op v : Int} : cycE c op v 11 = .tuple #[.int .i64 0, .agg (cpC (itM c op v 10)), .bool false] := if_neg (by omega)
set_option maxHeartbeats 8000000 in
theorem kcyc_plain (c : Cp) (op v : Int) (W : World) (G : GlobO W) (O : Oct c) (o0 : 0 ≤ op) (o1 : op < 256) (v0 : 0 ≤ v) (v1 : v < 256) (hs : isShape op .plain = true) : Calls Tryz.prog 5 #[.agg (cpC c), .int .u8 op, .int .u8 v] W fun e w' => e = .returned (.bool true) ∧ Below W.heap.size W w' := by
  have HZO := Lib.hid alloc_op
  have HZC := Lib.hid alloc_cpu
  have QW := Lib.hid (fun wr (g : GlobO wr) => kawake_ct wr g)
  have GG := Lib.hid G
  have E := ends_plain (aheadC c) op v (ahead_calm c) rfl hs
  have h10 := cyc_ten op o0 o1
  simp only [isShape, Bool.and_eq_true, decide_eq_true_eq, Bool.not_eq_true'] at hs
  obtain ⟨⟨⟨⟨⟨hm1, hm2⟩, hx⟩, _⟩, hl⟩, hc⟩ := hs
  have QD := Lib.hid (fun wr => (show Calls Tryz.prog 15 #[.int .u8 op] wr fun e w' => e = .returned (.agg (opC (nameV op) (modeV op) (useV op) ((lenV op : Int) + 1) false (goodV op))) ∧ Below wr.heap.size wr w' from by
    have := rdec_ct op wr o0 o1
    unfold decC at this
    rw [hx, hc] at this
    exact this))
  have QY := Lib.hid (fun wr (g : GlobO wr) => (show Calls Tryz.prog 16 #[.agg (cpC c), .int .u8 op, .int .u8 v] wr fun e w' => e = .returned (.tuple #[.int .i64 ((lenV op : Int) + 1), .agg (cpC (itM (aheadC c) op v (lenV op + 1))), .bool true]) ∧ Below wr.heap.size wr w' from by
    have := kcycles_ct c op v (lenV op + 1) O o0 o1 v0 v1 (by omega) (by omega) E.no (fun _ => E.t) wr g
    rw [cycE_yes (by omega)] at this
    exact this))
  have KJ := Lib.hid (show (cpC (itM (aheadC c) op v (lenV op + 1)))[24]? = some (.bool false) by show some (Value.bool (itM (aheadC c) op v (lenV op + 1)).jam) = _; rw [E.jam]; rfl)
  have e1 : (modeV op == 20) = false := by simpa using hm2
  have e2 : (modeV op == 11) = false := by simpa using hm1
  generalize itM (aheadC c) op v (lenV op + 1) = q at *
  generalize lenV op = N at *
  rw [hc] at h10
  generalize nameV op = nm at *
  generalize modeV op = md at *
  generalize useV op = us at *
  generalize goodV op = gd at *
  have W1 : wrap64 ((N : Int) + 1) = (N : Int) + 1 := w64 _ (by omega) (by omega)
  clear hm1 hm2 hc hx E G O
  have H := Mem.start W
  have M1 : True := trivial
  have M2 : True := trivial
  have M3 : True := trivial
  go_enter Tryz.func5, Tryz.ntmps5
  go_wp2_with (first | (clear M1; refine wpList_mboxA rfl _ _ rfl H _ rfl ?_; clear H; intro Rc w1 _ H) | (go_at_call 15; (with_reducible refine (QD.out _).mono ?_); rintro e w2 ⟨rfl, hB⟩; replace H := H.next hB; clear hB) | (clear M2; refine wpList_mnew rfl _ rfl H _ HZO.out ?_; clear H; intro Ro w1 _ H) | (refine gate_store _ _ _ rfl ?_; refine wpList_mstoreA rfl 46 _ _ rfl rfl _ rfl 0 H (opC _ _ _ _ _ _) _ rfl rfl (by kernel_rfl) (by kernel_rfl) (by kernel_rfl) ?_; clear H; intro w1 H; simp only [List.set_cons_zero, List.set_cons_succ] at H) | (refine gate_load _ _ rfl ?_; refine wpList_mloadA rfl 28 _ rfl _ rfl 1 H (cpC _) rfl (by decide +kernel) (by kernel_rfl) ?_) | (go_at_call 16; (with_reducible refine (QY.out _ (GG.out.mem H)).mono ?_); rintro e w2 ⟨rfl, hB⟩; replace H := H.next hB; clear hB) | (clear M3; refine wpList_mnew rfl _ rfl H _ HZC.out ?_; clear H; intro Rd w1 _ H) | (refine gate_store _ _ _ rfl ?_; refine wpList_mstoreA rfl 28 _ _ rfl rfl _ rfl 0 H (cpC _) _ rfl rfl (by kernel_rfl) (by kernel_rfl) (by kernel_rfl) ?_; clear H; intro w1 H; simp only [List.set_cons_zero, List.set_cons_succ] at H) | (refine gate_load _ _ rfl ?_; refine wpList_mload1 rfl _ _ rfl _ _ rfl 0 H _ (.bool _) rfl (by exact KJ.out) (by decide +kernel) ?_) | (refine gate_load _ _ rfl ?_; refine wpList_mload1 rfl _ _ rfl _ _ rfl 1 H _ (.int _ _) rfl rfl (by decide +kernel) ?_) | (refine gate_load _ _ rfl ?_; refine wpList_mload1 rfl _ _ rfl _ _ rfl 1 H _ (.bool _) rfl rfl (by decide +kernel) ?_) | (go_at_call 10; (with_reducible refine (QW.out _ (GG.out.mem H)).mono ?_); rintro e w2 ⟨rfl, hB⟩; replace H := H.next hB; clear hB) | fail)
  go_ret
  exact ⟨rfl, H.toBelow⟩
set_option maxHeartbeats 8000000 in
theorem kcyc_jam (c : Cp) (op v : Int) (W : World) (G : GlobO W) (O : Oct c) (o0 : 0 ≤ op) (o1 : op < 256) (v0 : 0 ≤ v) (v1 : v < 256) (hs : isShape op .jam = true) : Calls Tryz.prog 5 #[.agg (cpC c), .int .u8 op, .int .u8 v] W fun e w' => e = .returned (.bool true) ∧ Below W.heap.size W w' := by
  have HZO := Lib.hid alloc_op
  have HZC := Lib.hid alloc_cpu
  have QW := Lib.hid (fun wr (g : GlobO wr) => kawake_ct wr g)
  have GG := Lib.hid G
  have hJ := jam_two (aheadC c) op v (ahead_calm c) rfl hs
  have hm : modeV op = 20 := by
    simp only [isShape, Bool.and_eq_true, decide_eq_true_eq] at hs
    exact hs.1
  have QD := Lib.hid (fun wr => (show Calls Tryz.prog 15 #[.int .u8 op] wr fun e w' => e = .returned (.agg (opC (nameV op) 20 (useV op) (cycV (modeV op) (useV op)) (crossV (modeV op) (useV op)) (goodV op))) ∧ Below wr.heap.size wr w' from by
    have := rdec_ct op wr o0 o1
    unfold decC at this
    rw [hm] at this ⊢
    exact this))
  have QY := Lib.hid (fun wr (g : GlobO wr) => (show Calls Tryz.prog 16 #[.agg (cpC c), .int .u8 op, .int .u8 v] wr fun e w' => e = .returned (.tuple #[.int .i64 0, .agg (cpC (itM (aheadC c) op v 10)), .bool false]) ∧ Below wr.heap.size wr w' from by
    have := kcycles_ct c op v 11 O o0 o1 v0 v1 (by omega) (by omega) (fun j h0 h1 => by
      obtain ⟨i, rfl⟩ := Nat.exists_eq_add_of_lt h0
      have e := (hJ i).1
      rw [show 0 + i + 1 = i + 1 by omega, e]
      omega) (fun h => by omega) wr g
    rw [cycE_no] at this
    exact this))
  have KJ := Lib.hid (show (cpC (itM (aheadC c) op v 10))[24]? = some (.bool true) by show some (Value.bool (itM (aheadC c) op v (8 + 2)).jam) = _; rw [(hJ 8).2])
  generalize itM (aheadC c) op v 10 = q at *
  generalize cycV (modeV op) (useV op) = cy at *
  generalize crossV (modeV op) (useV op) = xr at *
  generalize nameV op = nm at *
  generalize useV op = us at *
  generalize goodV op = gd at *
  clear hm hJ hs G O
  have H := Mem.start W
  have M1 : True := trivial
  have M2 : True := trivial
  have M3 : True := trivial
  go_enter Tryz.func5, Tryz.ntmps5
  go_wp2_with (first | (clear M1; refine wpList_mboxA rfl _ _ rfl H _ rfl ?_; clear H; intro Rc w1 _ H) | (go_at_call 15; (with_reducible refine (QD.out _).mono ?_); rintro e w2 ⟨rfl, hB⟩; replace H := H.next hB; clear hB) | (clear M2; refine wpList_mnew rfl _ rfl H _ HZO.out ?_; clear H; intro Ro w1 _ H) | (refine gate_store _ _ _ rfl ?_; refine wpList_mstoreA rfl 46 _ _ rfl rfl _ rfl 0 H (opC _ _ _ _ _ _) _ rfl rfl (by kernel_rfl) (by kernel_rfl) (by kernel_rfl) ?_; clear H; intro w1 H; simp only [List.set_cons_zero, List.set_cons_succ] at H) | (refine gate_load _ _ rfl ?_; refine wpList_mloadA rfl 28 _ rfl _ rfl 1 H (cpC _) rfl (by decide +kernel) (by kernel_rfl) ?_) | (go_at_call 16; (with_reducible refine (QY.out _ (GG.out.mem H)).mono ?_); rintro e w2 ⟨rfl, hB⟩; replace H := H.next hB; clear hB) | (clear M3; refine wpList_mnew rfl _ rfl H _ HZC.out ?_; clear H; intro Rd w1 _ H) | (refine gate_store _ _ _ rfl ?_; refine wpList_mstoreA rfl 28 _ _ rfl rfl _ rfl 0 H (cpC _) _ rfl rfl (by kernel_rfl) (by kernel_rfl) (by kernel_rfl) ?_; clear H; intro w1 H; simp only [List.set_cons_zero, List.set_cons_succ] at H) | (refine gate_load _ _ rfl ?_; refine wpList_mload1 rfl _ _ rfl _ _ rfl 0 H _ (.bool _) rfl (by exact KJ.out) (by decide +kernel) ?_) | (refine gate_load _ _ rfl ?_; refine wpList_mload1 rfl _ _ rfl _ _ rfl 1 H _ (.int _ _) rfl rfl (by decide +kernel) ?_) | (go_at_call 10; (with_reducible refine (QW.out _ (GG.out.mem H)).mono ?_); rintro e w2 ⟨rfl, hB⟩; replace H := H.next hB; clear hB) | fail)
  go_ret
  exact ⟨rfl, H.toBelow⟩
set_option maxHeartbeats 8000000 in
theorem kcyc_x0 (c : Cp) (op v : Int) (W : World) (G : GlobO W) (O : Oct c) (o0 : 0 ≤ op) (o1 : op < 256) (v0 : 0 ≤ v) (v1 : v < 256) (hs : isShape op .absx = true) (hc : ¬ (v + c.xv) % 256 < c.xv) : Calls Tryz.prog 5 #[.agg (cpC c), .int .u8 op, .int .u8 v] W fun e w' => e = .returned (.bool true) ∧ Below W.heap.size W w' := by
  have HZO := Lib.hid alloc_op
  have HZC := Lib.hid alloc_cpu
  have QW := Lib.hid (fun wr (g : GlobO wr) => kawake_ct wr g)
  have GG := Lib.hid G
  have E : Ends (aheadC c) op v 4 := (ends_abs (aheadC c) op v false (ahead_calm c) rfl hs).2 hc
  simp only [isShape, Bool.and_eq_true, decide_eq_true_eq] at hs
  obtain ⟨⟨⟨hm, hu⟩, _⟩, hcy⟩ := hs
  have QD := Lib.hid (fun wr => (show Calls Tryz.prog 15 #[.int .u8 op] wr fun e w' => e = .returned (.agg (opC (nameV op) 7 1 4 true (goodV op))) ∧ Below wr.heap.size wr w' from by
    have := rdec_ct op wr o0 o1
    unfold decC at this
    rw [hcy, hm, hu] at this
    exact this))
  have QY := Lib.hid (fun wr (g : GlobO wr) => (show Calls Tryz.prog 16 #[.agg (cpC c), .int .u8 op, .int .u8 v] wr fun e w' => e = .returned (.tuple #[.int .i64 4, .agg (cpC (itM (aheadC c) op v 4)), .bool true]) ∧ Below wr.heap.size wr w' from by
    have := kcycles_ct c op v 4 O o0 o1 v0 v1 (by omega) (by omega) E.no (fun _ => E.t) wr g
    rw [cycE_yes (by omega)] at this
    exact this))
  have KJ := Lib.hid (show (cpC (itM (aheadC c) op v 4))[24]? = some (.bool false) by show some (Value.bool (itM (aheadC c) op v 4).jam) = _; rw [E.jam]; rfl)
  have QK := Lib.hid (fun wr => (show Calls Tryz.prog 18 #[.int .u8 v, .int .u8 c.xv] wr fun e w' => e = .returned (.int .i64 0) ∧ Below wr.heap.size wr w' from by
    have := kcarry_ct v c.xv wr v0 v1 O.x0 O.x1
    rw [show (v + c.xv) / 256 = 0 by have := O.x0; have := O.x1; omega] at this
    exact this))
  generalize itM (aheadC c) op v 4 = q at *
  generalize nameV op = nm at *
  generalize goodV op = gd at *
  clear hm hu hcy hc E G O
  have H := Mem.start W
  have M1 : True := trivial
  have M2 : True := trivial
  have M3 : True := trivial
  go_enter Tryz.func5, Tryz.ntmps5
  go_wp2_with (first | (clear M1; refine wpList_mboxA rfl _ _ rfl H _ rfl ?_; clear H; intro Rc w1 _ H) | (go_at_call 15; (with_reducible refine (QD.out _).mono ?_); rintro e w2 ⟨rfl, hB⟩; replace H := H.next hB; clear hB) | (clear M2; refine wpList_mnew rfl _ rfl H _ HZO.out ?_; clear H; intro Ro w1 _ H) | (refine gate_store _ _ _ rfl ?_; refine wpList_mstoreA rfl 46 _ _ rfl rfl _ rfl 0 H (opC _ _ _ _ _ _) _ rfl rfl (by kernel_rfl) (by kernel_rfl) (by kernel_rfl) ?_; clear H; intro w1 H; simp only [List.set_cons_zero, List.set_cons_succ] at H) | (refine gate_load _ _ rfl ?_; refine wpList_mloadA rfl 28 _ rfl _ rfl 1 H (cpC _) rfl (by decide +kernel) (by kernel_rfl) ?_) | (go_at_call 16; (with_reducible refine (QY.out _ (GG.out.mem H)).mono ?_); rintro e w2 ⟨rfl, hB⟩; replace H := H.next hB; clear hB) | (clear M3; refine wpList_mnew rfl _ rfl H _ HZC.out ?_; clear H; intro Rd w1 _ H) | (refine gate_store _ _ _ rfl ?_; refine wpList_mstoreA rfl 28 _ _ rfl rfl _ rfl 0 H (cpC _) _ rfl rfl (by kernel_rfl) (by kernel_rfl) (by kernel_rfl) ?_; clear H; intro w1 H; simp only [List.set_cons_zero, List.set_cons_succ] at H) | (refine gate_load _ _ rfl ?_; refine wpList_mload1 rfl _ _ rfl _ _ rfl 0 H _ (.bool _) rfl (by exact KJ.out) (by decide +kernel) ?_) | (refine gate_load _ _ rfl ?_; refine wpList_mload1 rfl _ _ rfl _ _ rfl 1 H _ (.int _ _) rfl rfl (by decide +kernel) ?_) | (refine gate_load _ _ rfl ?_; refine wpList_mload1 rfl _ _ rfl _ _ rfl 1 H _ (.bool _) rfl rfl (by decide +kernel) ?_) | (refine gate_load _ _ rfl ?_; refine wpList_mload1 rfl _ _ rfl _ _ rfl 2 H _ (.int _ _) rfl rfl (by decide +kernel) ?_) | (go_at_call 10; (with_reducible refine (QW.out _ (GG.out.mem H)).mono ?_); rintro e w2 ⟨rfl, hB⟩; replace H := H.next hB; clear hB) | (go_at_call 18; (with_reducible refine (QK.out _).mono ?_); rintro e w2 ⟨rfl, hB⟩; replace H := H.next hB; clear hB) | fail)
  go_ret
  exact ⟨rfl, H.toBelow⟩
set_option maxHeartbeats 8000000 in
theorem kcyc_x1 (c : Cp) (op v : Int) (W : World) (G : GlobO W) (O : Oct c) (o0 : 0 ≤ op) (o1 : op < 256) (v0 : 0 ≤ v) (v1 : v < 256) (hs : isShape op .absx = true) (hc :  (v + c.xv) % 256 < c.xv) : Calls Tryz.prog 5 #[.agg (cpC c), .int .u8 op, .int .u8 v] W fun e w' => e = .returned (.bool true) ∧ Below W.heap.size W w' := by
  have HZO := Lib.hid alloc_op
  have HZC := Lib.hid alloc_cpu
  have QW := Lib.hid (fun wr (g : GlobO wr) => kawake_ct wr g)
  have GG := Lib.hid G
  have E : Ends (aheadC c) op v 5 := (ends_abs (aheadC c) op v false (ahead_calm c) rfl hs).1 hc
  simp only [isShape, Bool.and_eq_true, decide_eq_true_eq] at hs
  obtain ⟨⟨⟨hm, hu⟩, _⟩, hcy⟩ := hs
  have QD := Lib.hid (fun wr => (show Calls Tryz.prog 15 #[.int .u8 op] wr fun e w' => e = .returned (.agg (opC (nameV op) 7 1 4 true (goodV op))) ∧ Below wr.heap.size wr w' from by
    have := rdec_ct op wr o0 o1
    unfold decC at this
    rw [hcy, hm, hu] at this
    exact this))
  have QY := Lib.hid (fun wr (g : GlobO wr) => (show Calls Tryz.prog 16 #[.agg (cpC c), .int .u8 op, .int .u8 v] wr fun e w' => e = .returned (.tuple #[.int .i64 5, .agg (cpC (itM (aheadC c) op v 5)), .bool true]) ∧ Below wr.heap.size wr w' from by
    have := kcycles_ct c op v 5 O o0 o1 v0 v1 (by omega) (by omega) E.no (fun _ => E.t) wr g
    rw [cycE_yes (by omega)] at this
    exact this))
  have KJ := Lib.hid (show (cpC (itM (aheadC c) op v 5))[24]? = some (.bool false) by show some (Value.bool (itM (aheadC c) op v 5).jam) = _; rw [E.jam]; rfl)
  have QK := Lib.hid (fun wr => (show Calls Tryz.prog 18 #[.int .u8 v, .int .u8 c.xv] wr fun e w' => e = .returned (.int .i64 1) ∧ Below wr.heap.size wr w' from by
    have := kcarry_ct v c.xv wr v0 v1 O.x0 O.x1
    rw [show (v + c.xv) / 256 = 1 by have := O.x0; have := O.x1; omega] at this
    exact this))
  generalize itM (aheadC c) op v 5 = q at *
  generalize nameV op = nm at *
  generalize goodV op = gd at *
  clear hm hu hcy hc E G O
  have H := Mem.start W
  have M1 : True := trivial
  have M2 : True := trivial
  have M3 : True := trivial
  go_enter Tryz.func5, Tryz.ntmps5
  go_wp2_with (first | (clear M1; refine wpList_mboxA rfl _ _ rfl H _ rfl ?_; clear H; intro Rc w1 _ H) | (go_at_call 15; (with_reducible refine (QD.out _).mono ?_); rintro e w2 ⟨rfl, hB⟩; replace H := H.next hB; clear hB) | (clear M2; refine wpList_mnew rfl _ rfl H _ HZO.out ?_; clear H; intro Ro w1 _ H) | (refine gate_store _ _ _ rfl ?_; refine wpList_mstoreA rfl 46 _ _ rfl rfl _ rfl 0 H (opC _ _ _ _ _ _) _ rfl rfl (by kernel_rfl) (by kernel_rfl) (by kernel_rfl) ?_; clear H; intro w1 H; simp only [List.set_cons_zero, List.set_cons_succ] at H) | (refine gate_load _ _ rfl ?_; refine wpList_mloadA rfl 28 _ rfl _ rfl 1 H (cpC _) rfl (by decide +kernel) (by kernel_rfl) ?_) | (go_at_call 16; (with_reducible refine (QY.out _ (GG.out.mem H)).mono ?_); rintro e w2 ⟨rfl, hB⟩; replace H := H.next hB; clear hB) | (clear M3; refine wpList_mnew rfl _ rfl H _ HZC.out ?_; clear H; intro Rd w1 _ H) | (refine gate_store _ _ _ rfl ?_; refine wpList_mstoreA rfl 28 _ _ rfl rfl _ rfl 0 H (cpC _) _ rfl rfl (by kernel_rfl) (by kernel_rfl) (by kernel_rfl) ?_; clear H; intro w1 H; simp only [List.set_cons_zero, List.set_cons_succ] at H) | (refine gate_load _ _ rfl ?_; refine wpList_mload1 rfl _ _ rfl _ _ rfl 0 H _ (.bool _) rfl (by exact KJ.out) (by decide +kernel) ?_) | (refine gate_load _ _ rfl ?_; refine wpList_mload1 rfl _ _ rfl _ _ rfl 1 H _ (.int _ _) rfl rfl (by decide +kernel) ?_) | (refine gate_load _ _ rfl ?_; refine wpList_mload1 rfl _ _ rfl _ _ rfl 1 H _ (.bool _) rfl rfl (by decide +kernel) ?_) | (refine gate_load _ _ rfl ?_; refine wpList_mload1 rfl _ _ rfl _ _ rfl 2 H _ (.int _ _) rfl rfl (by decide +kernel) ?_) | (go_at_call 10; (with_reducible refine (QW.out _ (GG.out.mem H)).mono ?_); rintro e w2 ⟨rfl, hB⟩; replace H := H.next hB; clear hB) | (go_at_call 18; (with_reducible refine (QK.out _).mono ?_); rintro e w2 ⟨rfl, hB⟩; replace H := H.next hB; clear hB) | fail)
  go_ret
  exact ⟨rfl, H.toBelow⟩
set_option maxHeartbeats 8000000 in
theorem kcyc_y0 (c : Cp) (op v : Int) (W : World) (G : GlobO W) (O : Oct c) (o0 : 0 ≤ op) (o1 : op < 256) (v0 : 0 ≤ v) (v1 : v < 256) (hs : isShape op .absy = true) (hc : ¬ (v + c.yv) % 256 < c.yv) : Calls Tryz.prog 5 #[.agg (cpC c), .int .u8 op, .int .u8 v] W fun e w' => e = .returned (.bool true) ∧ Below W.heap.size W w' := by
  have HZO := Lib.hid alloc_op
  have HZC := Lib.hid alloc_cpu
  have QW := Lib.hid (fun wr (g : GlobO wr) => kawake_ct wr g)
  have GG := Lib.hid G
  have E : Ends (aheadC c) op v 4 := (ends_abs (aheadC c) op v true (ahead_calm c) rfl hs).2 hc
  simp only [isShape, Bool.and_eq_true, decide_eq_true_eq] at hs
  obtain ⟨⟨⟨hm, hu⟩, _⟩, hcy⟩ := hs
  have QD := Lib.hid (fun wr => (show Calls Tryz.prog 15 #[.int .u8 op] wr fun e w' => e = .returned (.agg (opC (nameV op) 8 1 4 true (goodV op))) ∧ Below wr.heap.size wr w' from by
    have := rdec_ct op wr o0 o1
    unfold decC at this
    rw [hcy, hm, hu] at this
    exact this))
  have QY := Lib.hid (fun wr (g : GlobO wr) => (show Calls Tryz.prog 16 #[.agg (cpC c), .int .u8 op, .int .u8 v] wr fun e w' => e = .returned (.tuple #[.int .i64 4, .agg (cpC (itM (aheadC c) op v 4)), .bool true]) ∧ Below wr.heap.size wr w' from by
    have := kcycles_ct c op v 4 O o0 o1 v0 v1 (by omega) (by omega) E.no (fun _ => E.t) wr g
    rw [cycE_yes (by omega)] at this
    exact this))
  have KJ := Lib.hid (show (cpC (itM (aheadC c) op v 4))[24]? = some (.bool false) by show some (Value.bool (itM (aheadC c) op v 4).jam) = _; rw [E.jam]; rfl)
  have QK := Lib.hid (fun wr => (show Calls Tryz.prog 18 #[.int .u8 v, .int .u8 c.yv] wr fun e w' => e = .returned (.int .i64 0) ∧ Below wr.heap.size wr w' from by
    have := kcarry_ct v c.yv wr v0 v1 O.y0 O.y1
    rw [show (v + c.yv) / 256 = 0 by have := O.y0; have := O.y1; omega] at this
    exact this))
  generalize itM (aheadC c) op v 4 = q at *
  generalize nameV op = nm at *
  generalize goodV op = gd at *
  clear hm hu hcy hc E G O
  have H := Mem.start W
  have M1 : True := trivial
  have M2 : True := trivial
  have M3 : True := trivial
  go_enter Tryz.func5, Tryz.ntmps5
  go_wp2_with (first | (clear M1; refine wpList_mboxA rfl _ _ rfl H _ rfl ?_; clear H; intro Rc w1 _ H) | (go_at_call 15; (with_reducible refine (QD.out _).mono ?_); rintro e w2 ⟨rfl, hB⟩; replace H := H.next hB; clear hB) | (clear M2; refine wpList_mnew rfl _ rfl H _ HZO.out ?_; clear H; intro Ro w1 _ H) | (refine gate_store _ _ _ rfl ?_; refine wpList_mstoreA rfl 46 _ _ rfl rfl _ rfl 0 H (opC _ _ _ _ _ _) _ rfl rfl (by kernel_rfl) (by kernel_rfl) (by kernel_rfl) ?_; clear H; intro w1 H; simp only [List.set_cons_zero, List.set_cons_succ] at H) | (refine gate_load _ _ rfl ?_; refine wpList_mloadA rfl 28 _ rfl _ rfl 1 H (cpC _) rfl (by decide +kernel) (by kernel_rfl) ?_) | (go_at_call 16; (with_reducible refine (QY.out _ (GG.out.mem H)).mono ?_); rintro e w2 ⟨rfl, hB⟩; replace H := H.next hB; clear hB) | (clear M3; refine wpList_mnew rfl _ rfl H _ HZC.out ?_; clear H; intro Rd w1 _ H) | (refine gate_store _ _ _ rfl ?_; refine wpList_mstoreA rfl 28 _ _ rfl rfl _ rfl 0 H (cpC _) _ rfl rfl (by kernel_rfl) (by kernel_rfl) (by kernel_rfl) ?_; clear H; intro w1 H; simp only [List.set_cons_zero, List.set_cons_succ] at H) | (refine gate_load _ _ rfl ?_; refine wpList_mload1 rfl _ _ rfl _ _ rfl 0 H _ (.bool _) rfl (by exact KJ.out) (by decide +kernel) ?_) | (refine gate_load _ _ rfl ?_; refine wpList_mload1 rfl _ _ rfl _ _ rfl 1 H _ (.int _ _) rfl rfl (by decide +kernel) ?_) | (refine gate_load _ _ rfl ?_; refine wpList_mload1 rfl _ _ rfl _ _ rfl 1 H _ (.bool _) rfl rfl (by decide +kernel) ?_) | (refine gate_load _ _ rfl ?_; refine wpList_mload1 rfl _ _ rfl _ _ rfl 2 H _ (.int _ _) rfl rfl (by decide +kernel) ?_) | (go_at_call 10; (with_reducible refine (QW.out _ (GG.out.mem H)).mono ?_); rintro e w2 ⟨rfl, hB⟩; replace H := H.next hB; clear hB) | (go_at_call 18; (with_reducible refine (QK.out _).mono ?_); rintro e w2 ⟨rfl, hB⟩; replace H := H.next hB; clear hB) | fail)
  go_ret
  exact ⟨rfl, H.toBelow⟩
set_option maxHeartbeats 8000000 in
theorem kcyc_y1 (c : Cp) (op v : Int) (W : World) (G : GlobO W) (O : Oct c) (o0 : 0 ≤ op) (o1 : op < 256) (v0 : 0 ≤ v) (v1 : v < 256) (hs : isShape op .absy = true) (hc :  (v + c.yv) % 256 < c.yv) : Calls Tryz.prog 5 #[.agg (cpC c), .int .u8 op, .int .u8 v] W fun e w' => e = .returned (.bool true) ∧ Below W.heap.size W w' := by
  have HZO := Lib.hid alloc_op
  have HZC := Lib.hid alloc_cpu
  have QW := Lib.hid (fun wr (g : GlobO wr) => kawake_ct wr g)
  have GG := Lib.hid G
  have E : Ends (aheadC c) op v 5 := (ends_abs (aheadC c) op v true (ahead_calm c) rfl hs).1 hc
  simp only [isShape, Bool.and_eq_true, decide_eq_true_eq] at hs
  obtain ⟨⟨⟨hm, hu⟩, _⟩, hcy⟩ := hs
  have QD := Lib.hid (fun wr => (show Calls Tryz.prog 15 #[.int .u8 op] wr fun e w' => e = .returned (.agg (opC (nameV op) 8 1 4 true (goodV op))) ∧ Below wr.heap.size wr w' from by
    have := rdec_ct op wr o0 o1
    unfold decC at this
    rw [hcy, hm, hu] at this
    exact this))
  have QY := Lib.hid (fun wr (g : GlobO wr) => (show Calls Tryz.prog 16 #[.agg (cpC c), .int .u8 op, .int .u8 v] wr fun e w' => e = .returned (.tuple #[.int .i64 5, .agg (cpC (itM (aheadC c) op v 5)), .bool true]) ∧ Below wr.heap.size wr w' from by
    have := kcycles_ct c op v 5 O o0 o1 v0 v1 (by omega) (by omega) E.no (fun _ => E.t) wr g
    rw [cycE_yes (by omega)] at this
    exact this))
  have KJ := Lib.hid (show (cpC (itM (aheadC c) op v 5))[24]? = some (.bool false) by show some (Value.bool (itM (aheadC c) op v 5).jam) = _; rw [E.jam]; rfl)
  have QK := Lib.hid (fun wr => (show Calls Tryz.prog 18 #[.int .u8 v, .int .u8 c.yv] wr fun e w' => e = .returned (.int .i64 1) ∧ Below wr.heap.size wr w' from by
    have := kcarry_ct v c.yv wr v0 v1 O.y0 O.y1
    rw [show (v + c.yv) / 256 = 1 by have := O.y0; have := O.y1; omega] at this
    exact this))
  generalize itM (aheadC c) op v 5 = q at *
  generalize nameV op = nm at *
  generalize goodV op = gd at *
  clear hm hu hcy hc E G O
  have H := Mem.start W
  have M1 : True := trivial
  have M2 : True := trivial
  have M3 : True := trivial
  go_enter Tryz.func5, Tryz.ntmps5
  go_wp2_with (first | (clear M1; refine wpList_mboxA rfl _ _ rfl H _ rfl ?_; clear H; intro Rc w1 _ H) | (go_at_call 15; (with_reducible refine (QD.out _).mono ?_); rintro e w2 ⟨rfl, hB⟩; replace H := H.next hB; clear hB) | (clear M2; refine wpList_mnew rfl _ rfl H _ HZO.out ?_; clear H; intro Ro w1 _ H) | (refine gate_store _ _ _ rfl ?_; refine wpList_mstoreA rfl 46 _ _ rfl rfl _ rfl 0 H (opC _ _ _ _ _ _) _ rfl rfl (by kernel_rfl) (by kernel_rfl) (by kernel_rfl) ?_; clear H; intro w1 H; simp only [List.set_cons_zero, List.set_cons_succ] at H) | (refine gate_load _ _ rfl ?_; refine wpList_mloadA rfl 28 _ rfl _ rfl 1 H (cpC _) rfl (by decide +kernel) (by kernel_rfl) ?_) | (go_at_call 16; (with_reducible refine (QY.out _ (GG.out.mem H)).mono ?_); rintro e w2 ⟨rfl, hB⟩; replace H := H.next hB; clear hB) | (clear M3; refine wpList_mnew rfl _ rfl H _ HZC.out ?_; clear H; intro Rd w1 _ H) | (refine gate_store _ _ _ rfl ?_; refine wpList_mstoreA rfl 28 _ _ rfl rfl _ rfl 0 H (cpC _) _ rfl rfl (by kernel_rfl) (by kernel_rfl) (by kernel_rfl) ?_; clear H; intro w1 H; simp only [List.set_cons_zero, List.set_cons_succ] at H) | (refine gate_load _ _ rfl ?_; refine wpList_mload1 rfl _ _ rfl _ _ rfl 0 H _ (.bool _) rfl (by exact KJ.out) (by decide +kernel) ?_) | (refine gate_load _ _ rfl ?_; refine wpList_mload1 rfl _ _ rfl _ _ rfl 1 H _ (.int _ _) rfl rfl (by decide +kernel) ?_) | (refine gate_load _ _ rfl ?_; refine wpList_mload1 rfl _ _ rfl _ _ rfl 1 H _ (.bool _) rfl rfl (by decide +kernel) ?_) | (refine gate_load _ _ rfl ?_; refine wpList_mload1 rfl _ _ rfl _ _ rfl 2 H _ (.int _ _) rfl rfl (by decide +kernel) ?_) | (go_at_call 10; (with_reducible refine (QW.out _ (GG.out.mem H)).mono ?_); rintro e w2 ⟨rfl, hB⟩; replace H := H.next hB; clear hB) | (go_at_call 18; (with_reducible refine (QK.out _).mono ?_); rintro e w2 ⟨rfl, hB⟩; replace H := H.next hB; clear hB) | fail)
  go_ret
  exact ⟨rfl, H.toBelow⟩
set_option maxHeartbeats 8000000 in
theorem kcyc_i0 (c : Cp) (op v : Int) (W : World) (G : GlobO W) (O : Oct c) (o0 : 0 ≤ op) (o1 : op < 256) (v0 : 0 ≤ v) (v1 : v < 256) (hs : isShape op .izy = true) (hc : ¬ (v + c.yv) % 256 < c.yv) : Calls Tryz.prog 5 #[.agg (cpC c), .int .u8 op, .int .u8 v] W fun e w' => e = .returned (.bool true) ∧ Below W.heap.size W w' := by
  have HZO := Lib.hid alloc_op
  have HZC := Lib.hid alloc_cpu
  have QW := Lib.hid (fun wr (g : GlobO wr) => kawake_ct wr g)
  have GG := Lib.hid G
  have E : Ends (aheadC c) op v 5 := (ends_izy (aheadC c) op v (ahead_calm c) rfl hs).2 hc
  simp only [isShape, Bool.and_eq_true, decide_eq_true_eq] at hs
  obtain ⟨⟨⟨hm, hu⟩, _⟩, hcy⟩ := hs
  have QD := Lib.hid (fun wr => (show Calls Tryz.prog 15 #[.int .u8 op] wr fun e w' => e = .returned (.agg (opC (nameV op) 10 1 5 true (goodV op))) ∧ Below wr.heap.size wr w' from by
    have := rdec_ct op wr o0 o1
    unfold decC at this
    rw [hcy, hm, hu] at this
    exact this))
  have QY := Lib.hid (fun wr (g : GlobO wr) => (show Calls Tryz.prog 16 #[.agg (cpC c), .int .u8 op, .int .u8 v] wr fun e w' => e = .returned (.tuple #[.int .i64 5, .agg (cpC (itM (aheadC c) op v 5)), .bool true]) ∧ Below wr.heap.size wr w' from by
    have := kcycles_ct c op v 5 O o0 o1 v0 v1 (by omega) (by omega) E.no (fun _ => E.t) wr g
    rw [cycE_yes (by omega)] at this
    exact this))
  have KJ := Lib.hid (show (cpC (itM (aheadC c) op v 5))[24]? = some (.bool false) by show some (Value.bool (itM (aheadC c) op v 5).jam) = _; rw [E.jam]; rfl)
  have QK := Lib.hid (fun wr => (show Calls Tryz.prog 18 #[.int .u8 v, .int .u8 c.yv] wr fun e w' => e = .returned (.int .i64 0) ∧ Below wr.heap.size wr w' from by
    have := kcarry_ct v c.yv wr v0 v1 O.y0 O.y1
    rw [show (v + c.yv) / 256 = 0 by have := O.y0; have := O.y1; omega] at this
    exact this))
  generalize itM (aheadC c) op v 5 = q at *
  generalize nameV op = nm at *
  generalize goodV op = gd at *
  clear hm hu hcy hc E G O
  have H := Mem.start W
  have M1 : True := trivial
  have M2 : True := trivial
  have M3 : True := trivial
  go_enter Tryz.func5, Tryz.ntmps5
  go_wp2_with (first | (clear M1; refine wpList_mboxA rfl _ _ rfl H _ rfl ?_; clear H; intro Rc w1 _ H) | (go_at_call 15; (with_reducible refine (QD.out _).mono ?_); rintro e w2 ⟨rfl, hB⟩; replace H := H.next hB; clear hB) | (clear M2; refine wpList_mnew rfl _ rfl H _ HZO.out ?_; clear H; intro Ro w1 _ H) | (refine gate_store _ _ _ rfl ?_; refine wpList_mstoreA rfl 46 _ _ rfl rfl _ rfl 0 H (opC _ _ _ _ _ _) _ rfl rfl (by kernel_rfl) (by kernel_rfl) (by kernel_rfl) ?_; clear H; intro w1 H; simp only [List.set_cons_zero, List.set_cons_succ] at H) | (refine gate_load _ _ rfl ?_; refine wpList_mloadA rfl 28 _ rfl _ rfl 1 H (cpC _) rfl (by decide +kernel) (by kernel_rfl) ?_) | (go_at_call 16; (with_reducible refine (QY.out _ (GG.out.mem H)).mono ?_); rintro e w2 ⟨rfl, hB⟩; replace H := H.next hB; clear hB) | (clear M3; refine wpList_mnew rfl _ rfl H _ HZC.out ?_; clear H; intro Rd w1 _ H) | (refine gate_store _ _ _ rfl ?_; refine wpList_mstoreA rfl 28 _ _ rfl rfl _ rfl 0 H (cpC _) _ rfl rfl (by kernel_rfl) (by kernel_rfl) (by kernel_rfl) ?_; clear H; intro w1 H; simp only [List.set_cons_zero, List.set_cons_succ] at H) | (refine gate_load _ _ rfl ?_; refine wpList_mload1 rfl _ _ rfl _ _ rfl 0 H _ (.bool _) rfl (by exact KJ.out) (by decide +kernel) ?_) | (refine gate_load _ _ rfl ?_; refine wpList_mload1 rfl _ _ rfl _ _ rfl 1 H _ (.int _ _) rfl rfl (by decide +kernel) ?_) | (refine gate_load _ _ rfl ?_; refine wpList_mload1 rfl _ _ rfl _ _ rfl 1 H _ (.bool _) rfl rfl (by decide +kernel) ?_) | (refine gate_load _ _ rfl ?_; refine wpList_mload1 rfl _ _ rfl _ _ rfl 2 H _ (.int _ _) rfl rfl (by decide +kernel) ?_) | (go_at_call 10; (with_reducible refine (QW.out _ (GG.out.mem H)).mono ?_); rintro e w2 ⟨rfl, hB⟩; replace H := H.next hB; clear hB) | (go_at_call 18; (with_reducible refine (QK.out _).mono ?_); rintro e w2 ⟨rfl, hB⟩; replace H := H.next hB; clear hB) | fail)
  go_ret
  exact ⟨rfl, H.toBelow⟩
set_option maxHeartbeats 8000000 in
theorem kcyc_i1 (c : Cp) (op v : Int) (W : World) (G : GlobO W) (O : Oct c) (o0 : 0 ≤ op) (o1 : op < 256) (v0 : 0 ≤ v) (v1 : v < 256) (hs : isShape op .izy = true) (hc :  (v + c.yv) % 256 < c.yv) : Calls Tryz.prog 5 #[.agg (cpC c), .int .u8 op, .int .u8 v] W fun e w' => e = .returned (.bool true) ∧ Below W.heap.size W w' := by
  have HZO := Lib.hid alloc_op
  have HZC := Lib.hid alloc_cpu
  have QW := Lib.hid (fun wr (g : GlobO wr) => kawake_ct wr g)
  have GG := Lib.hid G
  have E : Ends (aheadC c) op v 6 := (ends_izy (aheadC c) op v (ahead_calm c) rfl hs).1 hc
  simp only [isShape, Bool.and_eq_true, decide_eq_true_eq] at hs
  obtain ⟨⟨⟨hm, hu⟩, _⟩, hcy⟩ := hs
  have QD := Lib.hid (fun wr => (show Calls Tryz.prog 15 #[.int .u8 op] wr fun e w' => e = .returned (.agg (opC (nameV op) 10 1 5 true (goodV op))) ∧ Below wr.heap.size wr w' from by
    have := rdec_ct op wr o0 o1
    unfold decC at this
    rw [hcy, hm, hu] at this
    exact this))
  have QY := Lib.hid (fun wr (g : GlobO wr) => (show Calls Tryz.prog 16 #[.agg (cpC c), .int .u8 op, .int .u8 v] wr fun e w' => e = .returned (.tuple #[.int .i64 6, .agg (cpC (itM (aheadC c) op v 6)), .bool true]) ∧ Below wr.heap.size wr w' from by
    have := kcycles_ct c op v 6 O o0 o1 v0 v1 (by omega) (by omega) E.no (fun _ => E.t) wr g
    rw [cycE_yes (by omega)] at this
    exact this))
  have KJ := Lib.hid (show (cpC (itM (aheadC c) op v 6))[24]? = some (.bool false) by show some (Value.bool (itM (aheadC c) op v 6).jam) = _; rw [E.jam]; rfl)
  have QK := Lib.hid (fun wr => (show Calls Tryz.prog 18 #[.int .u8 v, .int .u8 c.yv] wr fun e w' => e = .returned (.int .i64 1) ∧ Below wr.heap.size wr w' from by
    have := kcarry_ct v c.yv wr v0 v1 O.y0 O.y1
    rw [show (v + c.yv) / 256 = 1 by have := O.y0; have := O.y1; omega] at this
    exact this))
  generalize itM (aheadC c) op v 6 = q at *
  generalize nameV op = nm at *
  generalize goodV op = gd at *
  clear hm hu hcy hc E G O
  have H := Mem.start W
  have M1 : True := trivial
  have M2 : True := trivial
  have M3 : True := trivial
  go_enter Tryz.func5, Tryz.ntmps5
  go_wp2_with (first | (clear M1; refine wpList_mboxA rfl _ _ rfl H _ rfl ?_; clear H; intro Rc w1 _ H) | (go_at_call 15; (with_reducible refine (QD.out _).mono ?_); rintro e w2 ⟨rfl, hB⟩; replace H := H.next hB; clear hB) | (clear M2; refine wpList_mnew rfl _ rfl H _ HZO.out ?_; clear H; intro Ro w1 _ H) | (refine gate_store _ _ _ rfl ?_; refine wpList_mstoreA rfl 46 _ _ rfl rfl _ rfl 0 H (opC _ _ _ _ _ _) _ rfl rfl (by kernel_rfl) (by kernel_rfl) (by kernel_rfl) ?_; clear H; intro w1 H; simp only [List.set_cons_zero, List.set_cons_succ] at H) | (refine gate_load _ _ rfl ?_; refine wpList_mloadA rfl 28 _ rfl _ rfl 1 H (cpC _) rfl (by decide +kernel) (by kernel_rfl) ?_) | (go_at_call 16; (with_reducible refine (QY.out _ (GG.out.mem H)).mono ?_); rintro e w2 ⟨rfl, hB⟩; replace H := H.next hB; clear hB) | (clear M3; refine wpList_mnew rfl _ rfl H _ HZC.out ?_; clear H; intro Rd w1 _ H) | (refine gate_store _ _ _ rfl ?_; refine wpList_mstoreA rfl 28 _ _ rfl rfl _ rfl 0 H (cpC _) _ rfl rfl (by kernel_rfl) (by kernel_rfl) (by kernel_rfl) ?_; clear H; intro w1 H; simp only [List.set_cons_zero, List.set_cons_succ] at H) | (refine gate_load _ _ rfl ?_; refine wpList_mload1 rfl _ _ rfl _ _ rfl 0 H _ (.bool _) rfl (by exact KJ.out) (by decide +kernel) ?_) | (refine gate_load _ _ rfl ?_; refine wpList_mload1 rfl _ _ rfl _ _ rfl 1 H _ (.int _ _) rfl rfl (by decide +kernel) ?_) | (refine gate_load _ _ rfl ?_; refine wpList_mload1 rfl _ _ rfl _ _ rfl 1 H _ (.bool _) rfl rfl (by decide +kernel) ?_) | (refine gate_load _ _ rfl ?_; refine wpList_mload1 rfl _ _ rfl _ _ rfl 2 H _ (.int _ _) rfl rfl (by decide +kernel) ?_) | (go_at_call 10; (with_reducible refine (QW.out _ (GG.out.mem H)).mono ?_); rintro e w2 ⟨rfl, hB⟩; replace H := H.next hB; clear hB) | (go_at_call 18; (with_reducible refine (QK.out _).mono ?_); rintro e w2 ⟨rfl, hB⟩; replace H := H.next hB; clear hB) | fail)
  go_ret
  exact ⟨rfl, H.toBelow⟩
set_option maxHeartbeats 8000000 in
theorem kcyc_rn (c : Cp) (op v : Int) (W : World) (G : GlobO W) (O : Oct c) (o0 : 0 ≤ op) (o1 : op < 256) (v0 : 0 ≤ v) (v1 : v < 256) (hs : isShape op .rel = true) (hf : (decide (0 < bits .and .u8 c.p (flagB op)) == (op / 32 % 2 == 1)) = false) : Calls Tryz.prog 5 #[.agg (cpC c), .int .u8 op, .int .u8 v] W fun e w' => e = .returned (.bool true) ∧ Below W.heap.size W w' := by
  have HZO := Lib.hid alloc_op
  have HZC := Lib.hid alloc_cpu
  have QW := Lib.hid (fun wr (g : GlobO wr) => kawake_ct wr g)
  have GG := Lib.hid G
  have hE : (decide (0 < bits .and .u8 c.p (flagB op)) == (op / 32 % 2 == 1)) = true ↔ oneI (hasV (aheadC c).p (brF (nameV op))) = brW (nameV op) := by
    have hs2 := hs
    simp only [isShape, Bool.and_eq_true, decide_eq_true_eq] at hs2
    obtain ⟨⟨⟨_, _⟩, h3⟩, h4⟩ := hs2
    rw [h4, show brF (nameV op) = flagB op from h3, show (aheadC c).p = clr c.p from rfl, has_flag c.p op O.p0 O.p1]
    have h32 : op / 32 % 2 = 0 ∨ op / 32 % 2 = 1 := by omega
    cases decide (0 < bits .and .u8 c.p (flagB op)) <;> rcases h32 with h | h <;> rw [h] <;> decide
  have E : Ends (aheadC c) op v 2 := (ends_rel (aheadC c) op v (ahead_calm c) rfl hs).1 (fun e => by rw [hE.2 e] at hf; cases hf)
  clear hE
  simp only [isShape, Bool.and_eq_true, decide_eq_true_eq] at hs
  obtain ⟨⟨⟨⟨hm, _⟩, hcy⟩, _⟩, _⟩ := hs
  have QD := Lib.hid (fun wr => (show Calls Tryz.prog 15 #[.int .u8 op] wr fun e w' => e = .returned (.agg (opC (nameV op) 11 (useV op) 2 (crossV (modeV op) (useV op)) (goodV op))) ∧ Below wr.heap.size wr w' from by
    have := rdec_ct op wr o0 o1
    unfold decC at this
    rw [hcy] at this
    rw [hm] at this ⊢
    exact this))
  have QY := Lib.hid (fun wr (g : GlobO wr) => (show Calls Tryz.prog 16 #[.agg (cpC c), .int .u8 op, .int .u8 v] wr fun e w' => e = .returned (.tuple #[.int .i64 2, .agg (cpC (itM (aheadC c) op v 2)), .bool true]) ∧ Below wr.heap.size wr w' from by
    have := kcycles_ct c op v 2 O o0 o1 v0 v1 (by omega) (by omega) E.no (fun _ => E.t) wr g
    rw [cycE_yes (by omega)] at this
    exact this))
  have KJ := Lib.hid (show (cpC (itM (aheadC c) op v 2))[24]? = some (.bool false) by show some (Value.bool (itM (aheadC c) op v 2).jam) = _; rw [E.jam]; rfl)
  have QF := Lib.hid (fun wr => kflag_ct c op O o0 o1 wr)
  generalize decide (0 < bits .and .u8 c.p (flagB op)) = fb at *
  generalize (op / 32 % 2 == 1) = sb at *
  generalize itM (aheadC c) op v 2 = q at *
  generalize nameV op = nm at *
  generalize goodV op = gd at *
  generalize crossV (modeV op) (useV op) = xr at *
  generalize useV op = us at *
  have pc0 := O.pc0
  have pc1 := O.pc1
  clear hm hcy E G O
  by_cases hv : v < 128
  case' pos =>
    have hd : decide (127 < v) = false := decide_eq_false (by omega)
  case' neg =>
    have hd : decide (127 < v) = true := decide_eq_true (by omega)
  all_goals
    cases fb <;> cases sb <;> first | (cases hf; done) | skip
  all_goals
    clear hf
    have H := Mem.start W
    have M1 : True := trivial
    have M2 : True := trivial
    have M3 : True := trivial
    go_enter Tryz.func5, Tryz.ntmps5
    go_wp2_with (first | (clear M1; refine wpList_mboxA rfl _ _ rfl H _ rfl ?_; clear H; intro Rc w1 _ H) | (go_at_call 15; (with_reducible refine (QD.out _).mono ?_); rintro e w2 ⟨rfl, hB⟩; replace H := H.next hB; clear hB) | (clear M2; refine wpList_mnew rfl _ rfl H _ HZO.out ?_; clear H; intro Ro w1 _ H) | (refine gate_store _ _ _ rfl ?_; refine wpList_mstoreA rfl 46 _ _ rfl rfl _ rfl 0 H (opC _ _ _ _ _ _) _ rfl rfl (by kernel_rfl) (by kernel_rfl) (by kernel_rfl) ?_; clear H; intro w1 H; simp only [List.set_cons_zero, List.set_cons_succ] at H) | (refine gate_load _ _ rfl ?_; refine wpList_mloadA rfl 28 _ rfl _ rfl 1 H (cpC _) rfl (by decide +kernel) (by kernel_rfl) ?_) | (refine gate_load _ _ rfl ?_; refine wpList_mloadA rfl 28 _ rfl _ rfl 2 H (cpC _) rfl (by decide +kernel) (by kernel_rfl) ?_) | (go_at_call 16; (with_reducible refine (QY.out _ (GG.out.mem H)).mono ?_); rintro e w2 ⟨rfl, hB⟩; replace H := H.next hB; clear hB) | (clear M3; refine wpList_mnew rfl _ rfl H _ HZC.out ?_; clear H; intro Rd w1 _ H) | (refine gate_store _ _ _ rfl ?_; refine wpList_mstoreA rfl 28 _ _ rfl rfl _ rfl 0 H (cpC _) _ rfl rfl (by kernel_rfl) (by kernel_rfl) (by kernel_rfl) ?_; clear H; intro w1 H; simp only [List.set_cons_zero, List.set_cons_succ] at H) | (refine gate_load _ _ rfl ?_; refine wpList_mload1 rfl _ _ rfl _ _ rfl 0 H _ (.bool _) rfl (by exact KJ.out) (by decide +kernel) ?_) | (refine gate_load _ _ rfl ?_; refine wpList_mload1 rfl _ _ rfl _ _ rfl 1 H _ (.int _ _) rfl rfl (by decide +kernel) ?_) | (refine gate_load _ _ rfl ?_; refine wpList_mload1 rfl _ _ rfl _ _ rfl 2 H _ (.int _ _) rfl rfl (by decide +kernel) ?_) | (go_at_call 10; (with_reducible refine (QW.out _ (GG.out.mem H)).mono ?_); rintro e w2 ⟨rfl, hB⟩; replace H := H.next hB; clear hB) | (go_at_call 17; (with_reducible refine (QF.out _).mono ?_); rintro e w2 ⟨rfl, hB⟩; replace H := H.next hB; clear hB) | fail)
    all_goals first | (go_ret; exact ⟨rfl, H.toBelow⟩) | (exfalso; rename_i hx; simp only [IntKind.wrap_u16, bne_iff_ne, ne_eq, bne_eq_false_iff_eq] at hx; rw [Int.tdiv_eq_ediv_of_nonneg (by omega), Int.tdiv_eq_ediv_of_nonneg (by omega)] at hx; split at hp <;> omega)
set_option maxHeartbeats 8000000 in
theorem kcyc_rs (c : Cp) (op v : Int) (W : World) (G : GlobO W) (O : Oct c) (o0 : 0 ≤ op) (o1 : op < 256) (v0 : 0 ≤ v) (v1 : v < 256) (hs : isShape op .rel = true) (hf : (decide (0 < bits .and .u8 c.p (flagB op)) == (op / 32 % 2 == 1)) = true) (hp : ((c.pc + 2) % 65536 + (if v < 128 then v else v + 65280)) % 65536 / 256 = (c.pc + 2) % 65536 / 256) : Calls Tryz.prog 5 #[.agg (cpC c), .int .u8 op, .int .u8 v] W fun e w' => e = .returned (.bool true) ∧ Below W.heap.size W w' := by
  have HZO := Lib.hid alloc_op
  have HZC := Lib.hid alloc_cpu
  have QW := Lib.hid (fun wr (g : GlobO wr) => kawake_ct wr g)
  have GG := Lib.hid G
  have hE : (decide (0 < bits .and .u8 c.p (flagB op)) == (op / 32 % 2 == 1)) = true ↔ oneI (hasV (aheadC c).p (brF (nameV op))) = brW (nameV op) := by
    have hs2 := hs
    simp only [isShape, Bool.and_eq_true, decide_eq_true_eq] at hs2
    obtain ⟨⟨⟨_, _⟩, h3⟩, h4⟩ := hs2
    rw [h4, show brF (nameV op) = flagB op from h3, show (aheadC c).p = clr c.p from rfl, has_flag c.p op O.p0 O.p1]
    have h32 : op / 32 % 2 = 0 ∨ op / 32 % 2 = 1 := by omega
    cases decide (0 < bits .and .u8 c.p (flagB op)) <;> rcases h32 with h | h <;> rw [h] <;> decide
  have E : Ends (aheadC c) op v 3 := ((ends_rel (aheadC c) op v (ahead_calm c) rfl hs).2 (hE.1 hf)).1 hp
  clear hE
  simp only [isShape, Bool.and_eq_true, decide_eq_true_eq] at hs
  obtain ⟨⟨⟨⟨hm, _⟩, hcy⟩, _⟩, _⟩ := hs
  have QD := Lib.hid (fun wr => (show Calls Tryz.prog 15 #[.int .u8 op] wr fun e w' => e = .returned (.agg (opC (nameV op) 11 (useV op) 2 (crossV (modeV op) (useV op)) (goodV op))) ∧ Below wr.heap.size wr w' from by
    have := rdec_ct op wr o0 o1
    unfold decC at this
    rw [hcy] at this
    rw [hm] at this ⊢
    exact this))
  have QY := Lib.hid (fun wr (g : GlobO wr) => (show Calls Tryz.prog 16 #[.agg (cpC c), .int .u8 op, .int .u8 v] wr fun e w' => e = .returned (.tuple #[.int .i64 3, .agg (cpC (itM (aheadC c) op v 3)), .bool true]) ∧ Below wr.heap.size wr w' from by
    have := kcycles_ct c op v 3 O o0 o1 v0 v1 (by omega) (by omega) E.no (fun _ => E.t) wr g
    rw [cycE_yes (by omega)] at this
    exact this))
  have KJ := Lib.hid (show (cpC (itM (aheadC c) op v 3))[24]? = some (.bool false) by show some (Value.bool (itM (aheadC c) op v 3).jam) = _; rw [E.jam]; rfl)
  have QF := Lib.hid (fun wr => kflag_ct c op O o0 o1 wr)
  generalize decide (0 < bits .and .u8 c.p (flagB op)) = fb at *
  generalize (op / 32 % 2 == 1) = sb at *
  generalize itM (aheadC c) op v 3 = q at *
  generalize nameV op = nm at *
  generalize goodV op = gd at *
  generalize crossV (modeV op) (useV op) = xr at *
  generalize useV op = us at *
  have pc0 := O.pc0
  have pc1 := O.pc1
  clear hm hcy E G O
  by_cases hv : v < 128
  case' pos =>
    have hd : decide (127 < v) = false := decide_eq_false (by omega)
  case' neg =>
    have hd : decide (127 < v) = true := decide_eq_true (by omega)
  all_goals
    cases fb <;> cases sb <;> first | (cases hf; done) | skip
  all_goals
    clear hf
    have H := Mem.start W
    have M1 : True := trivial
    have M2 : True := trivial
    have M3 : True := trivial
    go_enter Tryz.func5, Tryz.ntmps5
    go_wp2_with (first | (clear M1; refine wpList_mboxA rfl _ _ rfl H _ rfl ?_; clear H; intro Rc w1 _ H) | (go_at_call 15; (with_reducible refine (QD.out _).mono ?_); rintro e w2 ⟨rfl, hB⟩; replace H := H.next hB; clear hB) | (clear M2; refine wpList_mnew rfl _ rfl H _ HZO.out ?_; clear H; intro Ro w1 _ H) | (refine gate_store _ _ _ rfl ?_; refine wpList_mstoreA rfl 46 _ _ rfl rfl _ rfl 0 H (opC _ _ _ _ _ _) _ rfl rfl (by kernel_rfl) (by kernel_rfl) (by kernel_rfl) ?_; clear H; intro w1 H; simp only [List.set_cons_zero, List.set_cons_succ] at H) | (refine gate_load _ _ rfl ?_; refine wpList_mloadA rfl 28 _ rfl _ rfl 1 H (cpC _) rfl (by decide +kernel) (by kernel_rfl) ?_) | (refine gate_load _ _ rfl ?_; refine wpList_mloadA rfl 28 _ rfl _ rfl 2 H (cpC _) rfl (by decide +kernel) (by kernel_rfl) ?_) | (go_at_call 16; (with_reducible refine (QY.out _ (GG.out.mem H)).mono ?_); rintro e w2 ⟨rfl, hB⟩; replace H := H.next hB; clear hB) | (clear M3; refine wpList_mnew rfl _ rfl H _ HZC.out ?_; clear H; intro Rd w1 _ H) | (refine gate_store _ _ _ rfl ?_; refine wpList_mstoreA rfl 28 _ _ rfl rfl _ rfl 0 H (cpC _) _ rfl rfl (by kernel_rfl) (by kernel_rfl) (by kernel_rfl) ?_; clear H; intro w1 H; simp only [List.set_cons_zero, List.set_cons_succ] at H) | (refine gate_load _ _ rfl ?_; refine wpList_mload1 rfl _ _ rfl _ _ rfl 0 H _ (.bool _) rfl (by exact KJ.out) (by decide +kernel) ?_) | (refine gate_load _ _ rfl ?_; refine wpList_mload1 rfl _ _ rfl _ _ rfl 1 H _ (.int _ _) rfl rfl (by decide +kernel) ?_) | (refine gate_load _ _ rfl ?_; refine wpList_mload1 rfl _ _ rfl _ _ rfl 2 H _ (.int _ _) rfl rfl (by decide +kernel) ?_) | (go_at_call 10; (with_reducible refine (QW.out _ (GG.out.mem H)).mono ?_); rintro e w2 ⟨rfl, hB⟩; replace H := H.next hB; clear hB) | (go_at_call 17; (with_reducible refine (QF.out _).mono ?_); rintro e w2 ⟨rfl, hB⟩; replace H := H.next hB; clear hB) | fail)
    all_goals first | (go_ret; exact ⟨rfl, H.toBelow⟩) | (exfalso; rename_i hx; simp only [IntKind.wrap_u16, bne_iff_ne, ne_eq, bne_eq_false_iff_eq] at hx; rw [Int.tdiv_eq_ediv_of_nonneg (by omega), Int.tdiv_eq_ediv_of_nonneg (by omega)] at hx; split at hp <;> omega)
set_option maxHeartbeats 8000000 in
theorem kcyc_ro (c : Cp) (op v : Int) (W : World) (G : GlobO W) (O : Oct c) (o0 : 0 ≤ op) (o1 : op < 256) (v0 : 0 ≤ v) (v1 : v < 256) (hs : isShape op .rel = true) (hf : (decide (0 < bits .and .u8 c.p (flagB op)) == (op / 32 % 2 == 1)) = true) (hp : ¬ ((c.pc + 2) % 65536 + (if v < 128 then v else v + 65280)) % 65536 / 256 = (c.pc + 2) % 65536 / 256) : Calls Tryz.prog 5 #[.agg (cpC c), .int .u8 op, .int .u8 v] W fun e w' => e = .returned (.bool true) ∧ Below W.heap.size W w' := by
  have HZO := Lib.hid alloc_op
  have HZC := Lib.hid alloc_cpu
  have QW := Lib.hid (fun wr (g : GlobO wr) => kawake_ct wr g)
  have GG := Lib.hid G
  have hE : (decide (0 < bits .and .u8 c.p (flagB op)) == (op / 32 % 2 == 1)) = true ↔ oneI (hasV (aheadC c).p (brF (nameV op))) = brW (nameV op) := by
    have hs2 := hs
    simp only [isShape, Bool.and_eq_true, decide_eq_true_eq] at hs2
    obtain ⟨⟨⟨_, _⟩, h3⟩, h4⟩ := hs2
    rw [h4, show brF (nameV op) = flagB op from h3, show (aheadC c).p = clr c.p from rfl, has_flag c.p op O.p0 O.p1]
    have h32 : op / 32 % 2 = 0 ∨ op / 32 % 2 = 1 := by omega
    cases decide (0 < bits .and .u8 c.p (flagB op)) <;> rcases h32 with h | h <;> rw [h] <;> decide
  have E : Ends (aheadC c) op v 4 := ((ends_rel (aheadC c) op v (ahead_calm c) rfl hs).2 (hE.1 hf)).2 hp
  clear hE
  simp only [isShape, Bool.and_eq_true, decide_eq_true_eq] at hs
  obtain ⟨⟨⟨⟨hm, _⟩, hcy⟩, _⟩, _⟩ := hs
  have QD := Lib.hid (fun wr => (show Calls Tryz.prog 15 #[.int .u8 op] wr fun e w' => e = .returned (.agg (opC (nameV op) 11 (useV op) 2 (crossV (modeV op) (useV op)) (goodV op))) ∧ Below wr.heap.size wr w' from by
    have := rdec_ct op wr o0 o1
    unfold decC at this
    rw [hcy] at this
    rw [hm] at this ⊢
    exact this))
  have QY := Lib.hid (fun wr (g : GlobO wr) => (show Calls Tryz.prog 16 #[.agg (cpC c), .int .u8 op, .int .u8 v] wr fun e w' => e = .returned (.tuple #[.int .i64 4, .agg (cpC (itM (aheadC c) op v 4)), .bool true]) ∧ Below wr.heap.size wr w' from by
    have := kcycles_ct c op v 4 O o0 o1 v0 v1 (by omega) (by omega) E.no (fun _ => E.t) wr g
    rw [cycE_yes (by omega)] at this
    exact this))
  have KJ := Lib.hid (show (cpC (itM (aheadC c) op v 4))[24]? = some (.bool false) by show some (Value.bool (itM (aheadC c) op v 4).jam) = _; rw [E.jam]; rfl)
  have QF := Lib.hid (fun wr => kflag_ct c op O o0 o1 wr)
  generalize decide (0 < bits .and .u8 c.p (flagB op)) = fb at *
  generalize (op / 32 % 2 == 1) = sb at *
  generalize itM (aheadC c) op v 4 = q at *
  generalize nameV op = nm at *
  generalize goodV op = gd at *
  generalize crossV (modeV op) (useV op) = xr at *
  generalize useV op = us at *
  have pc0 := O.pc0
  have pc1 := O.pc1
  clear hm hcy E G O
  by_cases hv : v < 128
  case' pos =>
    have hd : decide (127 < v) = false := decide_eq_false (by omega)
  case' neg =>
    have hd : decide (127 < v) = true := decide_eq_true (by omega)
  all_goals
    cases fb <;> cases sb <;> first | (cases hf; done) | skip
  all_goals
    clear hf
    have H := Mem.start W
    have M1 : True := trivial
    have M2 : True := trivial
    have M3 : True := trivial
    go_enter Tryz.func5, Tryz.ntmps5
    go_wp2_with (first | (clear M1; refine wpList_mboxA rfl _ _ rfl H _ rfl ?_; clear H; intro Rc w1 _ H) | (go_at_call 15; (with_reducible refine (QD.out _).mono ?_); rintro e w2 ⟨rfl, hB⟩; replace H := H.next hB; clear hB) | (clear M2; refine wpList_mnew rfl _ rfl H _ HZO.out ?_; clear H; intro Ro w1 _ H) | (refine gate_store _ _ _ rfl ?_; refine wpList_mstoreA rfl 46 _ _ rfl rfl _ rfl 0 H (opC _ _ _ _ _ _) _ rfl rfl (by kernel_rfl) (by kernel_rfl) (by kernel_rfl) ?_; clear H; intro w1 H; simp only [List.set_cons_zero, List.set_cons_succ] at H) | (refine gate_load _ _ rfl ?_; refine wpList_mloadA rfl 28 _ rfl _ rfl 1 H (cpC _) rfl (by decide +kernel) (by kernel_rfl) ?_) | (refine gate_load _ _ rfl ?_; refine wpList_mloadA rfl 28 _ rfl _ rfl 2 H (cpC _) rfl (by decide +kernel) (by kernel_rfl) ?_) | (go_at_call 16; (with_reducible refine (QY.out _ (GG.out.mem H)).mono ?_); rintro e w2 ⟨rfl, hB⟩; replace H := H.next hB; clear hB) | (clear M3; refine wpList_mnew rfl _ rfl H _ HZC.out ?_; clear H; intro Rd w1 _ H) | (refine gate_store _ _ _ rfl ?_; refine wpList_mstoreA rfl 28 _ _ rfl rfl _ rfl 0 H (cpC _) _ rfl rfl (by kernel_rfl) (by kernel_rfl) (by kernel_rfl) ?_; clear H; intro w1 H; simp only [List.set_cons_zero, List.set_cons_succ] at H) | (refine gate_load _ _ rfl ?_; refine wpList_mload1 rfl _ _ rfl _ _ rfl 0 H _ (.bool _) rfl (by exact KJ.out) (by decide +kernel) ?_) | (refine gate_load _ _ rfl ?_; refine wpList_mload1 rfl _ _ rfl _ _ rfl 1 H _ (.int _ _) rfl rfl (by decide +kernel) ?_) | (refine gate_load _ _ rfl ?_; refine wpList_mload1 rfl _ _ rfl _ _ rfl 2 H _ (.int _ _) rfl rfl (by decide +kernel) ?_) | (go_at_call 10; (with_reducible refine (QW.out _ (GG.out.mem H)).mono ?_); rintro e w2 ⟨rfl, hB⟩; replace H := H.next hB; clear hB) | (go_at_call 17; (with_reducible refine (QF.out _).mono ?_); rintro e w2 ⟨rfl, hB⟩; replace H := H.next hB; clear hB) | fail)
    all_goals first | (go_ret; exact ⟨rfl, H.toBelow⟩) | (exfalso; rename_i hx; simp only [IntKind.wrap_u16, bne_iff_ne, ne_eq, bne_eq_false_iff_eq] at hx; rw [Int.tdiv_eq_ediv_of_nonneg (by omega), Int.tdiv_eq_ediv_of_nonneg (by omega)] at hx; split at hp <;> omega)
theorem kcycles_walk (c : Cp) (op v : Int) (W : World) (G : GlobO W) (O : Oct c) (o0 : 0 ≤ op) (o1 : op < 256) (v0 : 0 ≤ v) (v1 : v < 256) : Calls Tryz.prog 5 #[.agg (cpC c), .int .u8 op, .int .u8 v] W fun e w' => e = .returned (.bool true) ∧ Below W.heap.size W w' := by
  have hs := shape_all op o0 o1
  simp only [Bool.or_eq_true] at hs
  rcases hs with ((((hs | hs) | hs) | hs) | hs) | hs
  · exact kcyc_plain c op v W G O o0 o1 v0 v1 hs
  · cases hf : (decide (0 < bits .and .u8 c.p (flagB op)) == (op / 32 % 2 == 1))
    · exact kcyc_rn c op v W G O o0 o1 v0 v1 hs hf
    · by_cases hp : ((c.pc + 2) % 65536 + (if v < 128 then v else v + 65280)) % 65536 / 256 = (c.pc + 2) % 65536 / 256
      · exact kcyc_rs c op v W G O o0 o1 v0 v1 hs hf hp
      · exact kcyc_ro c op v W G O o0 o1 v0 v1 hs hf hp
  · exact kcyc_jam c op v W G O o0 o1 v0 v1 hs
  · by_cases hc : (v + c.xv) % 256 < c.xv
    · exact kcyc_x1 c op v W G O o0 o1 v0 v1 hs hc
    · exact kcyc_x0 c op v W G O o0 o1 v0 v1 hs hc
  · by_cases hc : (v + c.yv) % 256 < c.yv
    · exact kcyc_y1 c op v W G O o0 o1 v0 v1 hs hc
    · exact kcyc_y0 c op v W G O o0 o1 v0 v1 hs hc
  · by_cases hc : (v + c.yv) % 256 < c.yv
    · exact kcyc_i1 c op v W G O o0 o1 v0 v1 hs hc
    · exact kcyc_i0 c op v W G O o0 o1 v0 v1 hs hc
end Go.Proofs.YtopmlmpadkdhjaaGreatDoor
