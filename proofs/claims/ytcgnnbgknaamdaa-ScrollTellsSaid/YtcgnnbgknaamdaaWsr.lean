/-
  The document's May, Apart, Whole, Tile and Tint of a scroll. Over this seat's translation; numbers are of their kinds. (Written by gen_sc4.py.)
-/
import Derived.Test.YtcgnnbgknaamdaaWsa
import Derived.Test.YtcgnnbgknaamdaaReb
namespace Go.Proofs.Ytcgnnbgknaamdaa
open Go.RowKit
set_option linter.unusedSimpArgs false
set_option linter.unusedVariables false
set_option maxRecDepth 20000

structure Pa where
  x : Int
  y : Int
  h : Int
  u : Int
  f : Int
def paC (p : Pa) : Array Value := #[.int .i64 p.x, .int .i64 p.y, .int .i64 p.h, .int .i64 p.u, .int .i64 p.f]
def pa0 : Pa := ⟨0, 0, 0, 0, 0⟩
def Pa.ok (p : Pa) : Prop := (0 ≤ p.x ∧ p.x < 64) ∧ (0 ≤ p.y ∧ p.y < 64) ∧ (0 ≤ p.h ∧ p.h < 2) ∧ (0 ≤ p.u ∧ p.u < 2) ∧ (0 ≤ p.f ∧ p.f < 8)
def wholP (p : Pa) : Int := p.x + 32 * p.y + 1024 * p.h + 2048 * p.u + 4096 * p.f
def apartV (n : Int) : Pa := ⟨n % 32, n / 32 % 32, n / 1024 % 2, n / 2048 % 2, n / 4096⟩
theorem pa_setX (p : Pa) (x : Int) : (splice (paC p).toList 0 (Value.cells (.int .i64 x)).toList).toArray = paC { p with x := x } := rfl
theorem pa_setY (p : Pa) (x : Int) : (splice (paC p).toList 1 (Value.cells (.int .i64 x)).toList).toArray = paC { p with y := x } := rfl
theorem pa_setH (p : Pa) (x : Int) : (splice (paC p).toList 2 (Value.cells (.int .i64 x)).toList).toArray = paC { p with h := x } := rfl
theorem pa_setU (p : Pa) (x : Int) : (splice (paC p).toList 3 (Value.cells (.int .i64 x)).toList).toArray = paC { p with u := x } := rfl
theorem pa_setF (p : Pa) (x : Int) : (splice (paC p).toList 4 (Value.cells (.int .i64 x)).toList).toArray = paC { p with f := x } := rfl
theorem alloc_pa (w : World) : (Instr.alloc 36 true (.tuple #[])).run Try.prog w = .ok (.pointer (some ⟨w.heap.size, 0, none⟩)) (w.alloc (.cells (paC pa0) 36)) := by kernel_rfl
theorem run_alloc_pa (o : Oper) (h : o.op = .alloc 36) (ρ : Operand → Value) (w : World) : (execOp ρ o).run Try.prog w = .ok (.value (ptrTo w.heap.size)) (w.alloc (.cells (paC pa0) 36)) := by
  unfold execOp
  simp only [h, Sem.run_bind, alloc_pa, Result.andThen_ok, Sem.run_pure]
  rfl
set_option maxHeartbeats 1000000 in
theorem rmay12_ct (s : Sc) (w : World) : Calls Try.prog 9 #[.agg (scC s)] w fun e w' => e = .returned (.bool (scMay s)) ∧ Below w.heap.size w w' := by
  obtain ⟨a, ha⟩ : ∃ a, decide (s.v < 32768) = a := ⟨_, rfl⟩
  obtain ⟨b, hb⟩ : ∃ a, decide (s.t < 32768) = a := ⟨_, rfl⟩
  obtain ⟨c, hc⟩ : ∃ a, decide (s.x < 8) = a := ⟨_, rfl⟩
  have hm : scMay s = (a && b && c) := by
    subst ha hb hc
    rfl
  rw [hm]
  clear hm
  have H := Mem.start w
  cases a <;> cases b <;> cases c
  all_goals
    go_enter Try.func9, Try.ntmps9
    go_wp2_with (first | go_skip | (refine wpList_mboxA rfl _ _ rfl H _ rfl ?_; clear H; intro _ w1 _ H) | (refine gate_load _ _ rfl ?_; first | (refine wpList_mloadA rfl _ _ rfl _ rfl 0 H _ rfl (by decide +kernel) (by kernel_rfl) ?_) | (refine wpList_mload1 rfl _ _ rfl _ _ rfl 0 H _ (.int _ _) rfl rfl (by decide +kernel) ?_) | (refine wpList_mload1 rfl _ _ rfl _ _ rfl 0 H _ (.bool _) rfl rfl (by decide +kernel) ?_) | (refine wpList_mload1 rfl _ _ rfl _ _ rfl 0 H _ (.pointer _) rfl rfl (by decide +kernel) ?_) | (refine wpList_mload1 rfl _ _ rfl _ _ rfl 0 H _ (.string _) rfl rfl (by decide +kernel) ?_) | (refine wpList_mload1 rfl _ _ rfl _ _ rfl 0 H _ (.slice _ _ _) rfl rfl (by decide +kernel) ?_)) | (refine gate_store _ _ _ rfl ?_; (first | (refine wpList_mstoreA rfl _ _ _ rfl rfl _ rfl 0 H _ _ rfl rfl (by kernel_rfl) (by kernel_rfl) (by kernel_rfl) ?_) | (refine wpList_mstore rfl _ _ _ rfl rfl _ _ rfl 0 H _ _ rfl (.int _ _) rfl (by kernel_rfl) (of_decide_eq_true (by kernel_rfl)) (by kernel_rfl) rfl ?_) | (refine wpList_mstore rfl _ _ _ rfl rfl _ _ rfl 0 H _ _ rfl (.bool _) rfl (by kernel_rfl) (of_decide_eq_true (by kernel_rfl)) (by kernel_rfl) rfl ?_) | (refine wpList_mstore rfl _ _ _ rfl rfl _ _ rfl 0 H _ _ rfl (.pointer _) rfl (by kernel_rfl) (of_decide_eq_true (by kernel_rfl)) (by kernel_rfl) rfl ?_) | (refine wpList_mstore rfl _ _ _ rfl rfl _ _ rfl 0 H _ _ rfl (.string _) rfl (by kernel_rfl) (of_decide_eq_true (by kernel_rfl)) (by kernel_rfl) rfl ?_) | (refine wpList_mstore rfl _ _ _ rfl rfl _ _ rfl 0 H _ _ rfl (.slice _ _ _) rfl (by kernel_rfl) (of_decide_eq_true (by kernel_rfl)) (by kernel_rfl) rfl ?_)); clear H; intro w1 H; simp only [List.set_cons_zero, List.set_cons_succ] at H))
    go_ret
    exact ⟨rfl, H.toBelow⟩
set_option maxHeartbeats 1000000 in
theorem rapart_ct (n : Int) (h0 : 0 ≤ n) (h1 : n < 65536) (w : World) : Calls Try.prog 16 #[.int .u16 n] w fun e w' => e = .returned (.agg (paC (apartV n))) ∧ Below w.heap.size w w' := by
  have HZ := Lib.hid alloc_pa
  have H := Mem.start w
  have d1 : n.tmod 32 = n % 32 := Int.tmod_eq_emod_of_nonneg h0
  have d2 : n.tdiv 32 = n / 32 := Int.tdiv_eq_ediv_of_nonneg h0
  have d3 : n.tdiv 1024 = n / 1024 := Int.tdiv_eq_ediv_of_nonneg h0
  have d4 : n.tdiv 2048 = n / 2048 := Int.tdiv_eq_ediv_of_nonneg h0
  have d5 : n.tdiv 4096 = n / 4096 := Int.tdiv_eq_ediv_of_nonneg h0
  have d6 : (n / 32).tmod 32 = n / 32 % 32 := Int.tmod_eq_emod_of_nonneg (by omega)
  have d7 : (n / 1024).tmod 2 = n / 1024 % 2 := Int.tmod_eq_emod_of_nonneg (by omega)
  have d8 : (n / 2048).tmod 2 = n / 2048 % 2 := Int.tmod_eq_emod_of_nonneg (by omega)
  go_enter Try.func16, Try.ntmps16
  go_wp2_with (first | go_skip | (refine wpList_mboxA rfl _ _ rfl H _ rfl ?_; clear H; intro _ w1 _ H) | (refine gate_load _ _ rfl ?_; first | (refine wpList_mloadA rfl _ _ rfl _ rfl 0 H _ rfl (by decide +kernel) (by kernel_rfl) ?_) | (refine wpList_mload1 rfl _ _ rfl _ _ rfl 0 H _ (.int _ _) rfl rfl (by decide +kernel) ?_) | (refine wpList_mload1 rfl _ _ rfl _ _ rfl 0 H _ (.bool _) rfl rfl (by decide +kernel) ?_) | (refine wpList_mload1 rfl _ _ rfl _ _ rfl 0 H _ (.pointer _) rfl rfl (by decide +kernel) ?_) | (refine wpList_mload1 rfl _ _ rfl _ _ rfl 0 H _ (.string _) rfl rfl (by decide +kernel) ?_) | (refine wpList_mload1 rfl _ _ rfl _ _ rfl 0 H _ (.slice _ _ _) rfl rfl (by decide +kernel) ?_)) | (refine gate_store _ _ _ rfl ?_; (first | (refine wpList_mstoreA rfl _ _ _ rfl rfl _ rfl 0 H _ _ rfl rfl (by kernel_rfl) (by kernel_rfl) (by kernel_rfl) ?_) | (refine wpList_mstore rfl _ _ _ rfl rfl _ _ rfl 0 H _ _ rfl (.int _ _) rfl (by kernel_rfl) (of_decide_eq_true (by kernel_rfl)) (by kernel_rfl) rfl ?_) | (refine wpList_mstore rfl _ _ _ rfl rfl _ _ rfl 0 H _ _ rfl (.bool _) rfl (by kernel_rfl) (of_decide_eq_true (by kernel_rfl)) (by kernel_rfl) rfl ?_) | (refine wpList_mstore rfl _ _ _ rfl rfl _ _ rfl 0 H _ _ rfl (.pointer _) rfl (by kernel_rfl) (of_decide_eq_true (by kernel_rfl)) (by kernel_rfl) rfl ?_) | (refine wpList_mstore rfl _ _ _ rfl rfl _ _ rfl 0 H _ _ rfl (.string _) rfl (by kernel_rfl) (of_decide_eq_true (by kernel_rfl)) (by kernel_rfl) rfl ?_) | (refine wpList_mstore rfl _ _ _ rfl rfl _ _ rfl 0 H _ _ rfl (.slice _ _ _) rfl (by kernel_rfl) (of_decide_eq_true (by kernel_rfl)) (by kernel_rfl) rfl ?_)); clear H; intro w1 H; simp only [List.set_cons_zero, List.set_cons_succ] at H) | (refine wpList_mnew rfl _ rfl H _ HZ.out ?_; clear H; intro _ w1 _ H) | fail)
  exact ret_mem1 rfl _ rfl 0 H _ rfl (by kernel_rfl) (by kernel_rfl) rfl ⟨rfl, H.toBelow⟩
set_option maxHeartbeats 1000000 in
theorem rwhole_ct (p : Pa) (ok : p.ok) (w : World) : Calls Try.prog 26 #[.agg (paC p)] w fun e w' => e = .returned (.int .u16 (wholP p)) ∧ Below w.heap.size w w' := by
  obtain ⟨x, y, h, u, f⟩ := p
  obtain ⟨⟨x0, x1⟩, ⟨y0, y1⟩, ⟨h0, h1⟩, ⟨u0, u1⟩, f0, f1⟩ := ok
  dsimp only at *
  have H := Mem.start w
  unfold wholP
  dsimp only
  go_enter Try.func26, Try.ntmps26
  go_wp2_with (first | go_skip | (refine wpList_mboxA rfl _ _ rfl H _ rfl ?_; clear H; intro _ w1 _ H) | (refine gate_load _ _ rfl ?_; first | (refine wpList_mloadA rfl _ _ rfl _ rfl 0 H _ rfl (by decide +kernel) (by kernel_rfl) ?_) | (refine wpList_mload1 rfl _ _ rfl _ _ rfl 0 H _ (.int _ _) rfl rfl (by decide +kernel) ?_) | (refine wpList_mload1 rfl _ _ rfl _ _ rfl 0 H _ (.bool _) rfl rfl (by decide +kernel) ?_) | (refine wpList_mload1 rfl _ _ rfl _ _ rfl 0 H _ (.pointer _) rfl rfl (by decide +kernel) ?_) | (refine wpList_mload1 rfl _ _ rfl _ _ rfl 0 H _ (.string _) rfl rfl (by decide +kernel) ?_) | (refine wpList_mload1 rfl _ _ rfl _ _ rfl 0 H _ (.slice _ _ _) rfl rfl (by decide +kernel) ?_)) | (refine gate_store _ _ _ rfl ?_; (first | (refine wpList_mstoreA rfl _ _ _ rfl rfl _ rfl 0 H _ _ rfl rfl (by kernel_rfl) (by kernel_rfl) (by kernel_rfl) ?_) | (refine wpList_mstore rfl _ _ _ rfl rfl _ _ rfl 0 H _ _ rfl (.int _ _) rfl (by kernel_rfl) (of_decide_eq_true (by kernel_rfl)) (by kernel_rfl) rfl ?_) | (refine wpList_mstore rfl _ _ _ rfl rfl _ _ rfl 0 H _ _ rfl (.bool _) rfl (by kernel_rfl) (of_decide_eq_true (by kernel_rfl)) (by kernel_rfl) rfl ?_) | (refine wpList_mstore rfl _ _ _ rfl rfl _ _ rfl 0 H _ _ rfl (.pointer _) rfl (by kernel_rfl) (of_decide_eq_true (by kernel_rfl)) (by kernel_rfl) rfl ?_) | (refine wpList_mstore rfl _ _ _ rfl rfl _ _ rfl 0 H _ _ rfl (.string _) rfl (by kernel_rfl) (of_decide_eq_true (by kernel_rfl)) (by kernel_rfl) rfl ?_) | (refine wpList_mstore rfl _ _ _ rfl rfl _ _ rfl 0 H _ _ rfl (.slice _ _ _) rfl (by kernel_rfl) (of_decide_eq_true (by kernel_rfl)) (by kernel_rfl) rfl ?_)); clear H; intro w1 H; simp only [List.set_cons_zero, List.set_cons_succ] at H) | fail)
  go_ret
  exact ⟨rfl, H.toBelow⟩
set_option maxHeartbeats 1000000 in
theorem rtile_ct (s : Sc) (ok : s.ok) (w : World) : Calls Try.prog 15 #[.agg (scC s)] w fun e w' => e = .returned (.int .u16 (tileS s)) ∧ Below w.heap.size w w' := by
  have H := Mem.start w
  have h0 := ok.1.1
  have h1 := ok.1.2
  unfold tileS
  go_enter Try.func15, Try.ntmps15
  go_wp2_with (first | go_skip | (refine wpList_mboxA rfl _ _ rfl H _ rfl ?_; clear H; intro _ w1 _ H) | (refine gate_load _ _ rfl ?_; first | (refine wpList_mloadA rfl _ _ rfl _ rfl 0 H _ rfl (by decide +kernel) (by kernel_rfl) ?_) | (refine wpList_mload1 rfl _ _ rfl _ _ rfl 0 H _ (.int _ _) rfl rfl (by decide +kernel) ?_) | (refine wpList_mload1 rfl _ _ rfl _ _ rfl 0 H _ (.bool _) rfl rfl (by decide +kernel) ?_) | (refine wpList_mload1 rfl _ _ rfl _ _ rfl 0 H _ (.pointer _) rfl rfl (by decide +kernel) ?_) | (refine wpList_mload1 rfl _ _ rfl _ _ rfl 0 H _ (.string _) rfl rfl (by decide +kernel) ?_) | (refine wpList_mload1 rfl _ _ rfl _ _ rfl 0 H _ (.slice _ _ _) rfl rfl (by decide +kernel) ?_)) | (refine gate_store _ _ _ rfl ?_; (first | (refine wpList_mstoreA rfl _ _ _ rfl rfl _ rfl 0 H _ _ rfl rfl (by kernel_rfl) (by kernel_rfl) (by kernel_rfl) ?_) | (refine wpList_mstore rfl _ _ _ rfl rfl _ _ rfl 0 H _ _ rfl (.int _ _) rfl (by kernel_rfl) (of_decide_eq_true (by kernel_rfl)) (by kernel_rfl) rfl ?_) | (refine wpList_mstore rfl _ _ _ rfl rfl _ _ rfl 0 H _ _ rfl (.bool _) rfl (by kernel_rfl) (of_decide_eq_true (by kernel_rfl)) (by kernel_rfl) rfl ?_) | (refine wpList_mstore rfl _ _ _ rfl rfl _ _ rfl 0 H _ _ rfl (.pointer _) rfl (by kernel_rfl) (of_decide_eq_true (by kernel_rfl)) (by kernel_rfl) rfl ?_) | (refine wpList_mstore rfl _ _ _ rfl rfl _ _ rfl 0 H _ _ rfl (.string _) rfl (by kernel_rfl) (of_decide_eq_true (by kernel_rfl)) (by kernel_rfl) rfl ?_) | (refine wpList_mstore rfl _ _ _ rfl rfl _ _ rfl 0 H _ _ rfl (.slice _ _ _) rfl (by kernel_rfl) (of_decide_eq_true (by kernel_rfl)) (by kernel_rfl) rfl ?_)); clear H; intro w1 H; simp only [List.set_cons_zero, List.set_cons_succ] at H) | fail)
  go_ret
  exact ⟨rfl, H.toBelow⟩
set_option maxHeartbeats 1000000 in
theorem rtint_ct (s : Sc) (ok : s.ok) (w : World) : Calls Try.prog 13 #[.agg (scC s)] w fun e w' => e = .returned (.tuple #[.int .u16 (tintS s), .int .i64 (shiftS s)]) ∧ Below w.heap.size w w' := by
  have HZ := Lib.hid alloc_pa
  have H := Mem.start w
  have h0 := ok.1.1
  have h1 := ok.1.2
  have QA := Lib.hid (fun wr => rapart_ct s.v h0 (by omega) wr)
  obtain ⟨x, hx⟩ : ∃ x, s.v % 32 = x := ⟨_, rfl⟩
  obtain ⟨y, hy⟩ : ∃ x, s.v / 32 % 32 = x := ⟨_, rfl⟩
  obtain ⟨h, hh⟩ : ∃ x, s.v / 1024 % 2 = x := ⟨_, rfl⟩
  obtain ⟨u, hu⟩ : ∃ x, s.v / 2048 % 2 = x := ⟨_, rfl⟩
  obtain ⟨f, hf⟩ : ∃ x, s.v / 4096 = x := ⟨_, rfl⟩
  have t1 : tintS s = 9152 + 1024 * h + 2048 * u + y / 4 * 8 + x / 4 := by unfold tintS; omega
  have t2 : shiftS s = y / 2 % 2 * 4 + x / 2 % 2 * 2 := by unfold shiftS; omega
  have ea : apartV s.v = ⟨x, y, h, u, f⟩ := by unfold apartV; rw [hx, hy, hh, hu, hf]
  rw [t1, t2]
  rw [ea] at QA
  have x0 : 0 ≤ x ∧ x < 32 := by omega
  have y0 : 0 ≤ y ∧ y < 32 := by omega
  have hh0 : 0 ≤ h ∧ h < 2 := by omega
  have u0 : 0 ≤ u ∧ u < 2 := by omega
  have d1 : y.tdiv 4 = y / 4 := Int.tdiv_eq_ediv_of_nonneg y0.1
  have d2 : x.tdiv 4 = x / 4 := Int.tdiv_eq_ediv_of_nonneg x0.1
  have d3 : y.tdiv 2 = y / 2 := Int.tdiv_eq_ediv_of_nonneg y0.1
  have d4 : x.tdiv 2 = x / 2 := Int.tdiv_eq_ediv_of_nonneg x0.1
  have d5 : (y / 2).tmod 2 = y / 2 % 2 := Int.tmod_eq_emod_of_nonneg (by omega)
  have d6 : (x / 2).tmod 2 = x / 2 % 2 := Int.tmod_eq_emod_of_nonneg (by omega)
  clear t1 t2 hx hy hh hu hf ok ea
  go_enter Try.func13, Try.ntmps13
  go_wp2_with (first | (go_at_call 16; (with_reducible refine (QA.out _).mono ?_); rintro e w2 ⟨rfl, hB⟩; replace H := H.next hB; clear hB) | go_skip | (refine wpList_mboxA rfl _ _ rfl H _ rfl ?_; clear H; intro _ w1 _ H) | (refine gate_load _ _ rfl ?_; first | (refine wpList_mloadA rfl _ _ rfl _ rfl 0 H _ rfl (by decide +kernel) (by kernel_rfl) ?_) | (refine wpList_mload1 rfl _ _ rfl _ _ rfl 0 H _ (.int _ _) rfl rfl (by decide +kernel) ?_) | (refine wpList_mload1 rfl _ _ rfl _ _ rfl 0 H _ (.bool _) rfl rfl (by decide +kernel) ?_) | (refine wpList_mload1 rfl _ _ rfl _ _ rfl 0 H _ (.pointer _) rfl rfl (by decide +kernel) ?_) | (refine wpList_mload1 rfl _ _ rfl _ _ rfl 0 H _ (.string _) rfl rfl (by decide +kernel) ?_) | (refine wpList_mload1 rfl _ _ rfl _ _ rfl 0 H _ (.slice _ _ _) rfl rfl (by decide +kernel) ?_)) | (refine gate_store _ _ _ rfl ?_; (first | (refine wpList_mstoreA rfl _ _ _ rfl rfl _ rfl 0 H _ _ rfl rfl (by kernel_rfl) (by kernel_rfl) (by kernel_rfl) ?_) | (refine wpList_mstore rfl _ _ _ rfl rfl _ _ rfl 0 H _ _ rfl (.int _ _) rfl (by kernel_rfl) (of_decide_eq_true (by kernel_rfl)) (by kernel_rfl) rfl ?_) | (refine wpList_mstore rfl _ _ _ rfl rfl _ _ rfl 0 H _ _ rfl (.bool _) rfl (by kernel_rfl) (of_decide_eq_true (by kernel_rfl)) (by kernel_rfl) rfl ?_) | (refine wpList_mstore rfl _ _ _ rfl rfl _ _ rfl 0 H _ _ rfl (.pointer _) rfl (by kernel_rfl) (of_decide_eq_true (by kernel_rfl)) (by kernel_rfl) rfl ?_) | (refine wpList_mstore rfl _ _ _ rfl rfl _ _ rfl 0 H _ _ rfl (.string _) rfl (by kernel_rfl) (of_decide_eq_true (by kernel_rfl)) (by kernel_rfl) rfl ?_) | (refine wpList_mstore rfl _ _ _ rfl rfl _ _ rfl 0 H _ _ rfl (.slice _ _ _) rfl (by kernel_rfl) (of_decide_eq_true (by kernel_rfl)) (by kernel_rfl) rfl ?_)); clear H; intro w1 H; simp only [List.set_cons_zero, List.set_cons_succ] at H) | (refine wpList_mnew rfl _ rfl H _ HZ.out ?_; clear H; intro _ w1 _ H) | fail)
  (try simp only [Act.put, List.setIfInBounds_toArray, List.set_cons_succ, List.set_cons_zero])
  (refine wp_region_quiet_below (by kernel_rfl) (by kernel_rfl) ?_); (repeat (first | (go_big_quiet_want; refine gate_qload _ _ rfl ?_; (first | (refine quiet_mloadA _ _ rfl _ rfl 0 H _ rfl (by decide +kernel) (by kernel_rfl) ?_) | (refine quiet_mloadA _ _ rfl _ rfl 1 H _ rfl (by decide +kernel) (by kernel_rfl) ?_) | (refine quiet_mload1 _ _ rfl _ _ rfl 0 H _ (.int _ _) rfl rfl (by decide +kernel) ?_) | (refine quiet_mload1 _ _ rfl _ _ rfl 1 H _ (.int _ _) rfl rfl (by decide +kernel) ?_) | (refine quiet_mload1 _ _ rfl _ _ rfl 0 H _ (.bool _) rfl rfl (by decide +kernel) ?_) | (refine quiet_mload1 _ _ rfl _ _ rfl 1 H _ (.bool _) rfl rfl (by decide +kernel) ?_) | (refine quiet_mload1 _ _ rfl _ _ rfl 0 H _ (.pointer _) rfl rfl (by decide +kernel) ?_) | (refine quiet_mload1 _ _ rfl _ _ rfl 1 H _ (.pointer _) rfl rfl (by decide +kernel) ?_) | (refine quiet_mload1 _ _ rfl _ _ rfl 0 H _ (.string _) rfl rfl (by decide +kernel) ?_) | (refine quiet_mload1 _ _ rfl _ _ rfl 1 H _ (.string _) rfl rfl (by decide +kernel) ?_) | (refine quiet_mload1 _ _ rfl _ _ rfl 0 H _ (.slice _ _ _) rfl rfl (by decide +kernel) ?_) | (refine quiet_mload1 _ _ rfl _ _ rfl 1 H _ (.slice _ _ _) rfl rfl (by decide +kernel) ?_)); simp only [Act.put, List.setIfInBounds_toArray, List.set_cons_succ, List.set_cons_zero]; go_big_quiet_on) | go_big_quiet_step (fail))); (refine wpQuiet_nil ?_); intro _ hw'; obtain ⟨⟨dq, osq⟩, hw''⟩ := hw'; (subst hw''); have hq := below_regrown w1 dq osq; replace H := H.next hq; generalize Go.Sort.grow (redrawn w1 dq) osq = wq at *
  go_wp2_with (first | go_skip | (refine wpList_mboxA rfl _ _ rfl H _ rfl ?_; clear H; intro _ w1 _ H) | (refine gate_load _ _ rfl ?_; first | (refine wpList_mloadA rfl _ _ rfl _ rfl 0 H _ rfl (by decide +kernel) (by kernel_rfl) ?_) | (refine wpList_mload1 rfl _ _ rfl _ _ rfl 0 H _ (.int _ _) rfl rfl (by decide +kernel) ?_) | (refine wpList_mload1 rfl _ _ rfl _ _ rfl 0 H _ (.bool _) rfl rfl (by decide +kernel) ?_) | (refine wpList_mload1 rfl _ _ rfl _ _ rfl 0 H _ (.pointer _) rfl rfl (by decide +kernel) ?_) | (refine wpList_mload1 rfl _ _ rfl _ _ rfl 0 H _ (.string _) rfl rfl (by decide +kernel) ?_) | (refine wpList_mload1 rfl _ _ rfl _ _ rfl 0 H _ (.slice _ _ _) rfl rfl (by decide +kernel) ?_)) | (refine gate_store _ _ _ rfl ?_; (first | (refine wpList_mstoreA rfl _ _ _ rfl rfl _ rfl 0 H _ _ rfl rfl (by kernel_rfl) (by kernel_rfl) (by kernel_rfl) ?_) | (refine wpList_mstore rfl _ _ _ rfl rfl _ _ rfl 0 H _ _ rfl (.int _ _) rfl (by kernel_rfl) (of_decide_eq_true (by kernel_rfl)) (by kernel_rfl) rfl ?_) | (refine wpList_mstore rfl _ _ _ rfl rfl _ _ rfl 0 H _ _ rfl (.bool _) rfl (by kernel_rfl) (of_decide_eq_true (by kernel_rfl)) (by kernel_rfl) rfl ?_) | (refine wpList_mstore rfl _ _ _ rfl rfl _ _ rfl 0 H _ _ rfl (.pointer _) rfl (by kernel_rfl) (of_decide_eq_true (by kernel_rfl)) (by kernel_rfl) rfl ?_) | (refine wpList_mstore rfl _ _ _ rfl rfl _ _ rfl 0 H _ _ rfl (.string _) rfl (by kernel_rfl) (of_decide_eq_true (by kernel_rfl)) (by kernel_rfl) rfl ?_) | (refine wpList_mstore rfl _ _ _ rfl rfl _ _ rfl 0 H _ _ rfl (.slice _ _ _) rfl (by kernel_rfl) (of_decide_eq_true (by kernel_rfl)) (by kernel_rfl) rfl ?_)); clear H; intro w1 H; simp only [List.set_cons_zero, List.set_cons_succ] at H) | fail)
  go_ret2
  exact ⟨rfl, H.toBelow⟩
end Go.Proofs.Ytcgnnbgknaamdaa
