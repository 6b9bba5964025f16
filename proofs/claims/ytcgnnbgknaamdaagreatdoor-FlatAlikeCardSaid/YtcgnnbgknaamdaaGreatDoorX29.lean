/-
  Several texts in one: what is read and written by the functions on the way to the statements. Conditions stand in each theorem.
-/
import Derived.Test.YtcgnnbgknaamdaaGreatDoorX27
import Derived.Test.YtcgnnbgknaamdaaGreatDoorX05
import Derived.Test.YtcgnnbgknaamdaaGreatDoorX15
namespace Go.Proofs.YtcgnnbgknaamdaaGreatDoor
open Go.RowKit
set_option linter.unusedSimpArgs false
set_option linter.unusedVariables false
set_option maxRecDepth 20000

theorem w64 (n : Int) (h0 : -1000 ≤ n) (h1 : n ≤ 1000) : wrap64 n = n := by unfold wrap64; omega
theorem steps_len (md us : Int) : (stepsL md us).length < 100 := by
  have h1 := ahead_len md
  have h2 := works_len us
  have h3 := stack_len md
  unfold stepsL
  split
  · decide
  split
  · decide
  split
  · decide
  split
  · decide
  split
  · decide
  split
  · decide
  split
  · omega
  split
  · decide
  · rw [List.length_append]; omega
def Wk.uO (s : Wk) (op : Int) : Wk := s.uIs (nameV op) (modeV op) (useV op) (cycV (modeV op) (useV op)) (crossV (modeV op) (useV op)) (goodV op)
theorem st_O (s : Wk) (op : Int) : (splice (wkC s).toList 25 (Value.cells (.agg (decC op))).toList).toArray = wkC (s.uO op) := st_Is s _ _ _ _ _ _
theorem wk_isO (s : Wk) (op : Int) : ∀ j v, (decC op)[j]? = some v → (wkC (s.uO op))[25 + j]? = some v := wk_is (s.uO op)
theorem GlobO.turned {w w' : World} {R : Nat} {l : List (Nat × Array Value)} (h : GlobO w) (hR : R ≠ 0) (H : Mem w.heap.size [R] w w' l) : GlobO w' where
  cyc := fun i c hi => by
    have := h.cyc i c hi
    have e := H.block _ h.lt (by simpa using hR.symm)
    unfold World.cell? at this ⊢
    rw [e]
    exact this
  lt := Nat.lt_of_lt_of_le h.lt H.size
theorem GlobO.apart {w : World} {R : Nat} {T : TypeId} {s : Wk} (h : GlobO w) (hR : w.heap[R]? = some (.cells (wkC s) T)) : R ≠ 0 := fun e => by
  have h1 := h.cyc 1 0 rfl
  rw [← e, cell_of_row w R 1 _ T _ hR] at h1
  cases h1
set_option maxHeartbeats 8000000 in
theorem turn_0 (s : Wk) (F : Fiw s) (h0 : s.t = 0) : ∀ (R : Nat) (T : TypeId) (w : World) (G : GlobO w), w.heap[R]? = some (.cells (wkC s) T) → Calls Tryz.prog 26 #[.pointer (some ⟨R, 0, none⟩)] w fun e w' => e = .returned (.agg #[.func (.func (askF (turnS s).1)) #[] #[], .func (.func (doF (turnS s).2)) #[] #[]]) ∧ Mem w.heap.size [R] w w' [(R, wkC (turnW s))] := by
  intro R T w G hR
  have FF := F
  obtain ⟨⟨a0, a1, x0, x1, y0, y1, s0, s1, p0, p1, q0, q1, cp, cq, pc0, pc1, op0, op1, ad0, ad1, d0, d1⟩, v0, v1⟩ := F
  have F := FF
  clear cp cq FF
  have e0 : ∀ n, ((s.uNx n).t == 0) = true := fun n => by show (s.t == 0) = true; simp [h0]
  have HZB := Lib.hid alloc_by
  have HZU := Lib.hid alloc_bus
  have HZS := Lib.hid alloc_step
  have H := Mem.begin hR
  clear hR
  go_enter Tryz.func26, Tryz.ntmps26
  go_wp2_with (first | go_skip | (refine gate_load _ _ rfl ?_; first | (refine wpList_mload1 rfl _ _ rfl _ _ rfl 1 H _ (.int _ _) rfl rfl (by decide +kernel) ?_)) | (refine gate_store _ _ _ rfl ?_; (first | (refine wpList_mstoreA rfl 75 _ _ rfl rfl _ rfl 0 H #[_, _] _ rfl rfl (by kernel_rfl) (by kernel_rfl) (by kernel_rfl) ?_) | (refine wpList_mstore rfl _ _ _ rfl rfl _ _ rfl 1 H _ _ rfl (.int _ _) rfl (by kernel_rfl) (of_decide_eq_true (by kernel_rfl)) (by kernel_rfl) (by first | with_reducible exact st_Nx _ _) ?_)); clear H; intro w1 H; simp only [List.set_cons_zero, List.set_cons_succ] at H) | (refine wpList_mnew rfl _ rfl H _ HZS.out ?_; clear H; intro _ w1 _ H) | fail)
  refine ret_mem1 rfl _ rfl 0 H _ rfl (by kernel_rfl) (by kernel_rfl) rfl ?_
  have e1 : turnS s = (.pc, .begin) := by unfold turnS; rw [if_pos h0]
  refine ⟨by rw [e1]; rfl, ?_⟩
  refine (H.only (i := 1) rfl).asW ?_
  clear H
  unfold turnW
  rw [if_pos h0]
  have hw : IntKind.i64.wrap (s.t + 1) = 1 := by rw [h0]; rfl
  simp_all [Wk.uNx]

set_option maxHeartbeats 8000000 in
theorem turn_1 (s : Wk) (F : Fiw s) (h0 : s.t ≠ 0) (t0 : 0 ≤ s.t) (t1 : s.t < mostV s.op) : ∀ (R : Nat) (T : TypeId) (w : World) (G : GlobO w), w.heap[R]? = some (.cells (wkC s) T) → Calls Tryz.prog 26 #[.pointer (some ⟨R, 0, none⟩)] w fun e w' => e = .returned (.agg #[.func (.func (askF (turnS s).1)) #[] #[], .func (.func (doF (turnS s).2)) #[] #[]]) ∧ Mem w.heap.size [R] w w' [(R, wkC (turnW s))] := by
  intro R T w G hR
  have FF := F
  obtain ⟨⟨a0, a1, x0, x1, y0, y1, s0, s1, p0, p1, q0, q1, cp, cq, pc0, pc1, op0, op1, ad0, ad1, d0, d1⟩, v0, v1⟩ := F
  have F := FF
  clear cp cq FF
  have e0 : ∀ n, ((s.uNx n).t == 0) = false := fun n => by show (s.t == 0) = false; simp [h0]
  have et : ∀ (n : Int), ((s.uNx n).uO s.op).t = s.t := fun _ => rfl
  have et2 : ∀ (n m : Int), (((s.uNx n).uO s.op).uNx m).t = s.t := fun _ _ => rfl
  have QD := Lib.hid (fun (n : Int) (wr : World) (g : GlobO wr) => (show Calls Tryz.prog 23 #[.int .u8 (s.uNx n).op] wr fun e w' => e = .returned (.agg (decC s.op)) ∧ Below wr.heap.size wr w' from qdec_ct s.op wr g op0 op1))
  have QS := Lib.hid (fun (wr : World) => (show Calls Tryz.prog 40 #[.agg (decC s.op)] wr (StepP (stepsL (modeV s.op) (useV s.op)) wr) from steps_ct _ _ _ _ _ _ wr))
  have tb := (tab_all s.op op0 op1).1
  have GG := Lib.hid G
  have hRg := G.apart hR
  have lt : s.t.toNat - 1 < (stepsL (modeV s.op) (useV s.op)).length := by omega
  obtain ⟨x, hx⟩ : ∃ x, (stepsL (modeV s.op) (useV s.op))[s.t.toNat - 1]? = some x := ⟨_, List.getElem?_eq_getElem lt⟩
  obtain ⟨n, hn⟩ : ∃ n, (stepsL (modeV s.op) (useV s.op)).length = n := ⟨_, rfl⟩
  have HX := Lib.hid hx
  have ub : (stepsL (modeV s.op) (useV s.op)).length < 100 := steps_len _ _
  have hK : (wrap64 (s.t - 1)).toNat = s.t.toNat - 1 := by rw [w64 _ (by omega) (by omega)]; omega
  have hw1 : wrap64 (s.t + 1) = s.t + 1 := w64 _ (by omega) (by omega)
  have HW1 := Lib.hid hw1
  have hwm : wrap64 (s.t - 1) = s.t - 1 := w64 _ (by omega) (by omega)
  have b1 : 0 ≤ s.t - 1 := by omega
  have b2 : s.t - 1 < (n : Int) := by omega
  have ex : turnS s = x := by unfold turnS; rw [if_neg h0, show (s.t - 1).toNat = s.t.toNat - 1 by omega, List.getD_eq_getElem?_getD, hx]; rfl
  have HEX := Lib.hid ex
  have HN := Lib.hid hn
  clear hx ex hw1 lt ub tb
  have HZB := Lib.hid alloc_by
  have HZU := Lib.hid alloc_bus
  have HZS := Lib.hid alloc_step
  have H := Mem.begin hR
  clear hR
  go_enter Tryz.func26, Tryz.ntmps26
  go_wp2_with (first | (go_at_call 23; (with_reducible refine (QD.out _ _ (GG.out.turned hRg H)).mono ?_); rintro e w2 ⟨rfl, hB⟩; replace H := H.next hB; clear hB) | (go_at_call 40; (with_reducible refine (QS.out _).mono ?_); intro e w2 hB; obtain ⟨v, blk, rfl, hA, hm⟩ := hB; obtain ⟨R2, cs, cap, rfl, rfl, hc1, hc2, hat⟩ := hA.elem stc_len _ _ HX.out; replace H := H.join hm; rw [List.cons_append, List.nil_append] at H; clear hm hA) | go_skip | (refine gate_load _ _ rfl ?_; first | (refine wpList_mload rfl 75 _ rfl _ _ rfl 0 H _ (stc x).toArray rfl (by decide +kernel) (by kernel_rfl) (fun j v h => hat j v (by simpa using h)) ?_)) | (refine gate_load _ _ rfl ?_; (refine wpList_mload rfl 66 _ rfl _ _ rfl 1 H _ (decC s.op) rfl (by decide +kernel) (by kernel_rfl) (wk_isO _ _) ?_)) | (refine gate_store _ _ _ rfl ?_; (refine wpList_mstore rfl 66 _ _ rfl rfl _ _ rfl 1 H _ _ rfl (.agg (decC s.op)) rfl (by kernel_rfl) (of_decide_eq_true (by kernel_rfl)) (by kernel_rfl) (st_O _ _) ?_); clear H; intro w1 H; simp only [List.set_cons_zero, List.set_cons_succ] at H) | (refine gate_load _ _ rfl ?_; first | (refine wpList_mload1 rfl _ _ rfl _ _ rfl 1 H _ (.int _ _) rfl rfl (by decide +kernel) ?_) | (refine wpList_mload1 rfl _ _ rfl _ _ rfl 2 H _ (.int _ _) rfl rfl (by decide +kernel) ?_)) | (refine gate_store _ _ _ rfl ?_; (first | (refine wpList_mstoreA rfl 75 _ _ rfl rfl _ rfl 1 H #[_, _] _ rfl rfl (by kernel_rfl) (by kernel_rfl) (by kernel_rfl) ?_) | (refine wpList_mstore rfl _ _ _ rfl rfl _ _ rfl 1 H _ _ rfl (.int _ _) rfl (by kernel_rfl) (of_decide_eq_true (by kernel_rfl)) (by kernel_rfl) (by first | with_reducible exact st_Nx _ _) ?_) | (refine wpList_mstore rfl _ _ _ rfl rfl _ _ rfl 2 H _ _ rfl (.int _ _) rfl (by kernel_rfl) (of_decide_eq_true (by kernel_rfl)) (by kernel_rfl) (by first | with_reducible exact st_Nx _ _) ?_)); clear H; intro w1 H; simp only [List.set_cons_zero, List.set_cons_succ] at H) | (refine wpList_mnew rfl _ rfl H _ HZS.out ?_; clear H; intro _ w1 _ H) | fail)
  all_goals (
    refine ret_mem1 rfl _ rfl 1 H _ rfl (by kernel_rfl) (by kernel_rfl) rfl ?_
    refine ⟨by rw [HEX.out]; rfl, ?_⟩
    refine (H.only (i := 2) rfl).asW ?_
    clear H
    unfold turnW
    rw [if_neg h0]
    have hn2 := HN.out
    have hw2 := HW1.out
    clear QD QS HEX HN HW1
    simp_all [Wk.uNx, Wk.uO, Wk.uIs, opW])

end Go.Proofs.YtcgnnbgknaamdaaGreatDoor
