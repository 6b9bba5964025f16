/-
  Several texts in one: what is read and written by the functions on the way to the statements. Conditions stand in each theorem.
-/
import Derived.Test.YtopmlmpadkdhjaaGreatDoorZ29
import Derived.Test.YtopmlmpadkdhjaaGreatDoorZ09
import Derived.Test.YtopmlmpadkdhjaaGreatDoorZ18
import Derived.Test.YtopmlmpadkdhjaaGreatDoorZ11
namespace Go.Proofs.YtopmlmpadkdhjaaGreatDoor
open Go.RowKit
set_option linter.unusedSimpArgs false
set_option linter.unusedVariables false
set_option maxRecDepth 20000

theorem w64 (n : Int) (h0 : -1000 ≤ n) (h1 : n ≤ 1000) : wrap64 n = n := by unfold wrap64; omega
theorem steps_len (md us : Int) : (stepsL md us).length < 100 := by
  have h1 := ahead_len md
  have h2 := works_len us
  have h3 := stack_len md
  unfold stepsL
  split
  · decide
  split
  · decide
  split
  · decide
  split
  · decide
  split
  · decide
  split
  · decide
  split
  · omega
  split
  · decide
  · rw [List.length_append]; omega
def Wk.uO (s : Wk) (op : Int) : Wk := s.uIs (nameV op) (modeV op) (useV op) (cycV (modeV op) (useV op)) (crossV (modeV op) (useV op)) (goodV op)
theorem st_O (s : Wk) (op : Int) : (splice (wkC s).toList 25 (Value.cells (.agg (decC op))).toList).toArray = wkC (s.uO op) := st_Is s _ _ _ _ _ _
theorem wk_isO (s : Wk) (op : Int) : ∀ j v, (decC op)[j]? = some v → (wkC (s.uO op))[25 + j]? = some v := wk_is (s.uO op)
theorem GlobO.turned {w w' : World} {R : Nat} {l : List (Nat × Array Value)} (h : GlobO w) (hR : R ≠ 0) (H : Mem w.heap.size [R] w w' l) : GlobO w' where
  cyc := fun i c hi => by
    have := h.cyc i c hi
    have e := H.block _ h.lt (by simpa using hR.symm)
    unfold World.cell? at this ⊢
    rw [e]
    exact this
  lt := Nat.lt_of_lt_of_le h.lt H.size
theorem GlobO.apart {w : World} {R : Nat} {T : TypeId} {s : Wk} (h : GlobO w) (hR : w.heap[R]? = some (.cells (wkC s) T)) : R ≠ 0 := fun e => by
  have h1 := h.cyc 1 0 rfl
  rw [← e, cell_of_row w R 1 _ T _ hR] at h1
  cases h1
set_option maxHeartbeats 8000000 in
theorem turn_0 (s : Wk) (F : Fiw s) (h0 : s.t = 0) : ∀ (R : Nat) (T : TypeId) (w : World) (G : GlobO w), w.heap[R]? = some (.cells (wkC s) T) → Calls Tryz.prog 36 #[.pointer (some ⟨R, 0, none⟩)] w fun e w' => e = .returned (.agg #[.func (.func (askF (turnS s).1)) #[] #[], .func (.func (doF (turnS s).2)) #[] #[]]) ∧ Mem w.heap.size [R] w w' [(R, wkC (turnW s))] := by
  intro R T w G hR
  have FF := F
  obtain ⟨⟨a0, a1, x0, x1, y0, y1, s0, s1, p0, p1, q0, q1, cp, cq, pc0, pc1, op0, op1, ad0, ad1, d0, d1⟩, v0, v1⟩ := F
  have F := FF
  clear cp cq FF
  have e0 : ∀ n, ((s.uNx n).t == 0) = true := fun n => by show (s.t == 0) = true; simp [h0]
  have HZB := Lib.hid alloc_by
  have HZU := Lib.hid alloc_bus
  have HZS := Lib.hid alloc_step
  have H := Mem.begin hR
  clear hR
  go_enter Tryz.func36, Tryz.ntmps36
  go_wp2_with (first | go_skip | (refine gate_load _ _ rfl ?_; first | (refine wpList_mload1 rfl _ _ rfl _ _ rfl 1 H _ (.int _ _) rfl rfl (by decide +kernel) ?_)) | (refine gate_store _ _ _ rfl ?_; (first | (refine wpList_mstoreA rfl 85 _ _ rfl rfl _ rfl 0 H #[_, _] _ rfl rfl (by kernel_rfl) (by kernel_rfl) (by kernel_rfl) ?_) | (refine wpList_mstore rfl _ _ _ rfl rfl _ _ rfl 1 H _ _ rfl (.int _ _) rfl (by kernel_rfl) (of_decide_eq_true (by kernel_rfl)) (by kernel_rfl) (by first | with_reducible exact st_Nx _ _) ?_)); clear H; intro w1 H; simp only [List.set_cons_zero, List.set_cons_succ] at H) | (refine wpList_mnew rfl _ rfl H _ HZS.out ?_; clear H; intro _ w1 _ H) | fail)
  refine ret_mem1 rfl _ rfl 0 H _ rfl (by kernel_rfl) (by kernel_rfl) rfl ?_
  have e1 : turnS s = (.pc, .begin) := by unfold turnS; rw [if_pos h0]
  refine ⟨by rw [e1]; rfl, ?_⟩
  refine (H.only (i := 1) rfl).asW ?_
  clear H
  unfold turnW
  rw [if_pos h0]
  have hw : IntKind.i64.wrap (s.t + 1) = 1 := by rw [h0]; rfl
  simp_all [Wk.uNx]

set_option maxHeartbeats 8000000 in
theorem turn_1 (s : Wk) (F : Fiw s) (h0 : s.t ≠ 0) (t0 : 0 ≤ s.t) (t1 : s.t < mostV s.op) : ∀ (R : Nat) (T : TypeId) (w : World) (G : GlobO w), w.heap[R]? = some (.cells (wkC s) T) → Calls Tryz.prog 36 #[.pointer (some ⟨R, 0, none⟩)] w fun e w' => e = .returned (.agg #[.func (.func (askF (turnS s).1)) #[] #[], .func (.func (doF (turnS s).2)) #[] #[]]) ∧ Mem w.heap.size [R] w w' [(R, wkC (turnW s))] := by
  intro R T w G hR
  have FF := F
  obtain ⟨⟨a0, a1, x0, x1, y0, y1, s0, s1, p0, p1, q0, q1, cp, cq, pc0, pc1, op0, op1, ad0, ad1, d0, d1⟩, v0, v1⟩ := F
  have F := FF
  clear cp cq FF
  have e0 : ∀ n, ((s.uNx n).t == 0) = false := fun n => by show (s.t == 0) = false; simp [h0]
  have et : ∀ (n : Int), ((s.uNx n).uO s.op).t = s.t := fun _ => rfl
  have et2 : ∀ (n m : Int), (((s.uNx n).uO s.op).uNx m).t = s.t := fun _ _ => rfl
  have QD := Lib.hid (fun (n : Int) (wr : World) (g : GlobO wr) => (show Calls Tryz.prog 33 #[.int .u8 (s.uNx n).op] wr fun e w' => e = .returned (.agg (decC s.op)) ∧ Below wr.heap.size wr w' from qdec_ct s.op wr g op0 op1))
  have QS := Lib.hid (fun (wr : World) => (show Calls Tryz.prog 61 #[.agg (decC s.op)] wr (StepP (stepsL (modeV s.op) (useV s.op)) wr) from steps_ct _ _ _ _ _ _ wr))
  have tb := (tab_all s.op op0 op1).1
  have GG := Lib.hid G
  have hRg := G.apart hR
  have lt : s.t.toNat - 1 < (stepsL (modeV s.op) (useV s.op)).length := by omega
  obtain ⟨x, hx⟩ : ∃ x, (stepsL (modeV s.op) (useV s.op))[s.t.toNat - 1]? = some x := ⟨_, List.getElem?_eq_getElem lt⟩
  obtain ⟨n, hn⟩ : ∃ n, (stepsL (modeV s.op) (useV s.op)).length = n := ⟨_, rfl⟩
  have HX := Lib.hid hx
  have ub : (stepsL (modeV s.op) (useV s.op)).length < 100 := steps_len _ _
  have hK : (wrap64 (s.t - 1)).toNat = s.t.toNat - 1 := by rw [w64 _ (by omega) (by omega)]; omega
  have hw1 : wrap64 (s.t + 1) = s.t + 1 := w64 _ (by omega) (by omega)
  have HW1 := Lib.hid hw1
  have hwm : wrap64 (s.t - 1) = s.t - 1 := w64 _ (by omega) (by omega)
  have b1 : 0 ≤ s.t - 1 := by omega
  have b2 : s.t - 1 < (n : Int) := by omega
  have ex : turnS s = x := by unfold turnS; rw [if_neg h0, show (s.t - 1).toNat = s.t.toNat - 1 by omega, List.getD_eq_getElem?_getD, hx]; rfl
  have HEX := Lib.hid ex
  have HN := Lib.hid hn
  clear hx ex hw1 lt ub tb
  have HZB := Lib.hid alloc_by
  have HZU := Lib.hid alloc_bus
  have HZS := Lib.hid alloc_step
  have H := Mem.begin hR
  clear hR
  go_enter Tryz.func36, Tryz.ntmps36
  go_wp2_with (first | (go_at_call 33; (with_reducible refine (QD.out _ _ (GG.out.turned hRg H)).mono ?_); rintro e w2 ⟨rfl, hB⟩; replace H := H.next hB; clear hB) | (go_at_call 61; (with_reducible refine (QS.out _).mono ?_); intro e w2 hB; obtain ⟨v, blk, rfl, hA, hm⟩ := hB; obtain ⟨R2, cs, cap, rfl, rfl, hc1, hc2, hat⟩ := hA.elem stc_len _ _ HX.out; replace H := H.join hm; rw [List.cons_append, List.nil_append] at H; clear hm hA) | go_skip | (refine gate_load _ _ rfl ?_; first | (refine wpList_mload rfl 85 _ rfl _ _ rfl 0 H _ (stc x).toArray rfl (by decide +kernel) (by kernel_rfl) (fun j v h => hat j v (by simpa using h)) ?_)) | (refine gate_load _ _ rfl ?_; (refine wpList_mload rfl 46 _ rfl _ _ rfl 1 H _ (decC s.op) rfl (by decide +kernel) (by kernel_rfl) (wk_isO _ _) ?_)) | (refine gate_store _ _ _ rfl ?_; (refine wpList_mstore rfl 46 _ _ rfl rfl _ _ rfl 1 H _ _ rfl (.agg (decC s.op)) rfl (by kernel_rfl) (of_decide_eq_true (by kernel_rfl)) (by kernel_rfl) (st_O _ _) ?_); clear H; intro w1 H; simp only [List.set_cons_zero, List.set_cons_succ] at H) | (refine gate_load _ _ rfl ?_; first | (refine wpList_mload1 rfl _ _ rfl _ _ rfl 1 H _ (.int _ _) rfl rfl (by decide +kernel) ?_) | (refine wpList_mload1 rfl _ _ rfl _ _ rfl 2 H _ (.int _ _) rfl rfl (by decide +kernel) ?_)) | (refine gate_store _ _ _ rfl ?_; (first | (refine wpList_mstoreA rfl 85 _ _ rfl rfl _ rfl 1 H #[_, _] _ rfl rfl (by kernel_rfl) (by kernel_rfl) (by kernel_rfl) ?_) | (refine wpList_mstore rfl _ _ _ rfl rfl _ _ rfl 1 H _ _ rfl (.int _ _) rfl (by kernel_rfl) (of_decide_eq_true (by kernel_rfl)) (by kernel_rfl) (by first | with_reducible exact st_Nx _ _) ?_) | (refine wpList_mstore rfl _ _ _ rfl rfl _ _ rfl 2 H _ _ rfl (.int _ _) rfl (by kernel_rfl) (of_decide_eq_true (by kernel_rfl)) (by kernel_rfl) (by first | with_reducible exact st_Nx _ _) ?_)); clear H; intro w1 H; simp only [List.set_cons_zero, List.set_cons_succ] at H) | (refine wpList_mnew rfl _ rfl H _ HZS.out ?_; clear H; intro _ w1 _ H) | fail)
  all_goals (
    refine ret_mem1 rfl _ rfl 1 H _ rfl (by kernel_rfl) (by kernel_rfl) rfl ?_
    refine ⟨by rw [HEX.out]; rfl, ?_⟩
    refine (H.only (i := 2) rfl).asW ?_
    clear H
    unfold turnW
    rw [if_neg h0]
    have hn2 := HN.out
    have hw2 := HW1.out
    clear QD QS HEX HN HW1
    simp_all [Wk.uNx, Wk.uO, Wk.uIs, opW])

end Go.Proofs.YtopmlmpadkdhjaaGreatDoor
namespace Go.Proofs.YtopmlmpadkdhjaaGreatDoor
open Go.RowKit
set_option linter.unusedSimpArgs false
set_option linter.unusedVariables false
set_option maxRecDepth 20000

def mostO (md cy : Int) (xr : Bool) : Int := if md = 20 then 2 else if md = 11 then cy + 2 else if xr then cy + 1 else cy
section
variable {md cy : Int} {xr : Bool}
theorem most_1 (h : (md == 20) = true) : mostO md cy xr = 2 := if_pos (eq_of_beq h)
theorem most_n (h : (md == 20) = false) : mostO md cy xr = if md = 11 then cy + 2 else if xr then cy + 1 else cy := if_neg (by simpa using h)
theorem most_2 (h : (md == 20) = false) (h2 : (md == 11) = true) : mostO md cy xr = cy + 2 := by rw [most_n h, if_pos (eq_of_beq h2)]
theorem most_3 (h : (md == 20) = false) (h2 : (md == 11) = false) (h3 : xr = true) : mostO md cy xr = cy + 1 := by rw [most_n h, if_neg (by simpa using h2), if_pos h3]
theorem most_4 (h : (md == 20) = false) (h2 : (md == 11) = false) (h3 : xr = false) : mostO md cy xr = cy := by rw [most_n h, if_neg (by simpa using h2), if_neg (by simp [h3])]
end
set_option maxHeartbeats 2000000 in
theorem most_ct (nm : ByteArray) (md us cy : Int) (xr gd : Bool) (w : World) (c0 : 0 ≤ cy) (c1 : cy ≤ 20) : Calls Tryz.prog 32 #[.agg (opC nm md us cy xr gd)] w fun e w' => e = .returned (.int .i64 (mostO md cy xr)) ∧ Below w.heap.size w w' := by
  have H := Mem.start w
  have W2 : wrap64 (cy + 2) = cy + 2 := w64 _ (by omega) (by omega)
  have W1 : wrap64 (cy + 1) = cy + 1 := w64 _ (by omega) (by omega)
  go_enter Tryz.func32, Tryz.ntmps32
  cases xr
  · go_wp2_with (first | (refine wpList_mboxA rfl _ _ rfl H _ rfl ?_; clear H; intro _ w1 _ H) | go_skip | (refine gate_load _ _ rfl ?_; first | (refine wpList_mload rfl 25 _ rfl _ _ rfl 0 H _ #[.int .u8 _, .int .u8 _] rfl (by decide +kernel) (by kernel_rfl) (part2 rfl rfl) ?_) | (refine wpList_mload1 rfl _ _ rfl _ _ rfl 0 H _ (.int _ _) rfl rfl (by decide +kernel) ?_) | (refine wpList_mload1 rfl _ _ rfl _ _ rfl 0 H _ (.bool _) rfl rfl (by decide +kernel) ?_)) | fail)
    all_goals (
      go_ret
      refine ⟨?_, H.toBelow⟩
      first | (rw [most_1 (by assumption)]; rfl) | (rw [most_2 (by assumption) (by assumption)]; first | rfl | rw [← W2]) | (rw [most_4 (by assumption) (by assumption) rfl]; rfl))
  · go_wp2_with (first | (refine wpList_mboxA rfl _ _ rfl H _ rfl ?_; clear H; intro _ w1 _ H) | go_skip | (refine gate_load _ _ rfl ?_; first | (refine wpList_mload rfl 25 _ rfl _ _ rfl 0 H _ #[.int .u8 _, .int .u8 _] rfl (by decide +kernel) (by kernel_rfl) (part2 rfl rfl) ?_) | (refine wpList_mload1 rfl _ _ rfl _ _ rfl 0 H _ (.int _ _) rfl rfl (by decide +kernel) ?_) | (refine wpList_mload1 rfl _ _ rfl _ _ rfl 0 H _ (.bool _) rfl rfl (by decide +kernel) ?_)) | fail)
    all_goals (
      go_ret
      refine ⟨?_, H.toBelow⟩
      first | (rw [most_1 (by assumption)]; rfl) | (rw [most_2 (by assumption) (by assumption)]; first | rfl | rw [← W2]) | (rw [most_3 (by assumption) (by assumption) rfl]; first | rfl | rw [← W1]))
theorem stood_fl : Tryz.prog.stoodInHeld 25 = false := by kernel_rfl
theorem struct_fl : Tryz.prog.underlying 25 = some (.struct (Tryz.prog.fieldsOf 25)) := by kernel_rfl
theorem neq_fl (a b c d : Int) (w : World) : (binOp .neq 25 (.agg #[.int .u8 a, .int .u8 b]) (.agg #[.int .u8 c, .int .u8 d])).run Tryz.prog w = .ok (.bool (!(a == c && b == d))) w := by
  have u3 := Tryz.underlying5
  have a3 := Tryz.isAgg5
  have z3 := Tryz.sizeOf5
  rw [run_neq_struct, show (10000 : Nat) = 9999 + 1 from rfl, run_equalIn_agg w 9999 25 _ _ struct_fl stood_fl]
  simp only [Program.fieldsOf, Tryz.underlying25]
  go_simp
  by_cases h1 : a = c <;> by_cases h2 : b = d <;> simp [h1, h2]
def errI (b : Bool) : Int := if b then 0 else 1
theorem cyc_le (op : Int) (h0 : 0 ≤ op) (h1 : op < 256) : 0 ≤ cycV (modeV op) (useV op) ∧ cycV (modeV op) (useV op) ≤ 20 := byte_all (p := fun op => 0 ≤ cycV (modeV op) (useV op) ∧ cycV (modeV op) (useV op) ≤ 20) (by decide +kernel) op h0 h1
set_option maxHeartbeats 4000000 in
theorem kcheck_ct (c : Cp) (w : World) (G : GlobO w) (p0 : 0 ≤ c.p) (p1 : c.p < 256) (q0 : 0 ≤ c.ps) (q1 : c.ps < 256) (op0 : 0 ≤ c.op) (op1 : c.op < 256) : Calls Tryz.prog 9 #[.agg (cpC c)] w fun e w' => e = .returned (.int .i64 (errI (okB c))) ∧ Below w.heap.size w w' := by
  have GG := Lib.hid G
  have cl := cyc_le c.op op0 op1
  have QM := Lib.hid (fun wr => (show Calls Tryz.prog 32 #[.agg (decC c.op)] wr fun e w' => e = .returned (.int .i64 (mostV c.op)) ∧ Below wr.heap.size wr w' from most_ct _ _ _ _ _ _ wr cl.1 cl.2))
  clear G cl
  obtain ⟨z, hz⟩ : ∃ z, (c.p == clr c.p && c.ps == clr c.ps) = z := ⟨_, rfl⟩
  have EN := Lib.hid (fun W => (neq_fl c.p c.ps (clr c.p) (clr c.ps) W).trans (by rw [hz]))
  have HZZ := Lib.hid hz
  have eg : Tryz.prog.eqGuardType Tryz.prog.depth 25 = false := by kernel_rfl
  clear hz
  have H := Mem.start w
  go_enter Tryz.func9, Tryz.ntmps9
  go_wp2_with (first | (refine wpList_mboxA rfl _ _ rfl H _ rfl ?_; clear H; intro _ w1 _ H) | go_skip | (refine gate_load _ _ rfl ?_; first | (refine wpList_mload rfl 25 _ rfl _ _ rfl 0 H _ #[.int .u8 _, .int .u8 _] rfl (by decide +kernel) (by kernel_rfl) (part2 rfl rfl) ?_) | (refine wpList_mload1 rfl _ _ rfl _ _ rfl 0 H _ (.int _ _) rfl rfl (by decide +kernel) ?_) | (refine wpList_mload1 rfl _ _ rfl _ _ rfl 0 H _ (.bool _) rfl rfl (by decide +kernel) ?_)) | fail)
  · go_ret
    exact ⟨by rw [show okB c = false from Bool.eq_false_iff.2 (fun h => by have := (okB_iff c).1 h; omega)]; rfl, H.toBelow⟩
  (try simp only [Act.put, List.setIfInBounds_toArray, List.set_cons_succ, List.set_cons_zero])
  (refine wp_region_tails_below 7 (by kernel_rfl) (by kernel_rfl) ?_); (simp only [List.take_succ_cons, List.take_zero, List.drop_succ_cons, List.drop_zero]); (repeat (first | (go_big_quiet_want; refine gate_qload _ _ rfl ?_; (first | (refine quiet_mloadA 23 _ rfl _ rfl 0 H #[.int .u8 _, .bool _] rfl (by decide +kernel) (by kernel_rfl) ?_) | (refine quiet_mload 23 _ rfl _ _ rfl 0 H _ #[.int .u8 _, .bool _] rfl (by decide +kernel) (by kernel_rfl) (part2 rfl rfl) ?_) | (refine quiet_mloadA 25 _ rfl _ rfl 0 H #[.int .u8 _, .int .u8 _] rfl (by decide +kernel) (by kernel_rfl) ?_) | (refine quiet_mload 25 _ rfl _ _ rfl 0 H _ #[.int .u8 _, .int .u8 _] rfl (by decide +kernel) (by kernel_rfl) (part2 rfl rfl) ?_) | (refine quiet_mloadA 81 _ rfl _ rfl 0 H (wkC _) rfl (by decide +kernel) (by kernel_rfl) ?_) | (refine quiet_mloadA 43 _ rfl _ rfl 0 H (bsC _) rfl (by decide +kernel) (by kernel_rfl) ?_) | (refine quiet_mload1 _ _ rfl _ _ rfl 0 H _ (.int _ _) rfl rfl (by decide +kernel) ?_) | (refine quiet_mload1 _ _ rfl _ _ rfl 0 H _ (.bool _) rfl rfl (by decide +kernel) ?_) | (refine quiet_mload1 _ _ rfl _ _ rfl 0 H _ (.string _) rfl rfl (by decide +kernel) ?_) | (refine quiet_mload1 _ _ rfl _ _ rfl 0 H _ (.func _ _ _) rfl rfl (by decide +kernel) ?_)); simp only [Act.put, List.setIfInBounds_toArray, List.set_cons_succ, List.set_cons_zero]; go_big_quiet_on) | go_big_quiet_step ((first | (go_at_call 33; (with_reducible exact Calls.regrown_of (qdec_ct _ _ (GG.out.mem (H.next (below_regrown _ _ _))) op0 op1))) | (go_at_call 32; (with_reducible exact Calls.regrown_of (QM.out _))) | fail)))); (refine wpQuiet_nil ?_); intro _ hw'; obtain ⟨⟨dq, osq⟩, hw''⟩ := hw'; (subst hw''); replace H := H.next (below_regrown _ dq osq)
  go_wp2_with (first | (refine wpList_mboxA rfl _ _ rfl H _ rfl ?_; clear H; intro _ w1 _ H) | go_skip | (refine gate_load _ _ rfl ?_; first | (refine wpList_mload rfl 25 _ rfl _ _ rfl 0 H _ #[.int .u8 _, .int .u8 _] rfl (by decide +kernel) (by kernel_rfl) (part2 rfl rfl) ?_) | (refine wpList_mload1 rfl _ _ rfl _ _ rfl 0 H _ (.int _ _) rfl rfl (by decide +kernel) ?_) | (refine wpList_mload1 rfl _ _ rfl _ _ rfl 0 H _ (.bool _) rfl rfl (by decide +kernel) ?_)) | fail)
  all_goals first | (go_ret; exact ⟨by rw [show okB c = false from Bool.eq_false_iff.2 (fun h => by have := (okB_iff c).1 h; omega)]; rfl, H.toBelow⟩) | skip
  (try simp only [Act.put, List.setIfInBounds_toArray, List.set_cons_succ, List.set_cons_zero])
  (refine wp_region_tails_below 5 (by kernel_rfl) (by kernel_rfl) ?_); (simp only [List.take_succ_cons, List.take_zero, List.drop_succ_cons, List.drop_zero]); (repeat (first | (go_big_quiet_want; refine gate_qload _ _ rfl ?_; (first | (refine quiet_mloadA 23 _ rfl _ rfl 0 H #[.int .u8 _, .bool _] rfl (by decide +kernel) (by kernel_rfl) ?_) | (refine quiet_mload 23 _ rfl _ _ rfl 0 H _ #[.int .u8 _, .bool _] rfl (by decide +kernel) (by kernel_rfl) (part2 rfl rfl) ?_) | (refine quiet_mloadA 25 _ rfl _ rfl 0 H #[.int .u8 _, .int .u8 _] rfl (by decide +kernel) (by kernel_rfl) ?_) | (refine quiet_mload 25 _ rfl _ _ rfl 0 H _ #[.int .u8 _, .int .u8 _] rfl (by decide +kernel) (by kernel_rfl) (part2 rfl rfl) ?_) | (refine quiet_mloadA 81 _ rfl _ rfl 0 H (wkC _) rfl (by decide +kernel) (by kernel_rfl) ?_) | (refine quiet_mloadA 43 _ rfl _ rfl 0 H (bsC _) rfl (by decide +kernel) (by kernel_rfl) ?_) | (refine quiet_mload1 _ _ rfl _ _ rfl 0 H _ (.int _ _) rfl rfl (by decide +kernel) ?_) | (refine quiet_mload1 _ _ rfl _ _ rfl 0 H _ (.bool _) rfl rfl (by decide +kernel) ?_) | (refine quiet_mload1 _ _ rfl _ _ rfl 0 H _ (.string _) rfl rfl (by decide +kernel) ?_) | (refine quiet_mload1 _ _ rfl _ _ rfl 0 H _ (.func _ _ _) rfl rfl (by decide +kernel) ?_)); simp only [Act.put, List.setIfInBounds_toArray, List.set_cons_succ, List.set_cons_zero]; go_big_quiet_on) | go_big_quiet_step ((first | (go_at_call 34; (with_reducible exact Calls.regrown_of (acheck_ct _ _ _ p0 p1 q0 q1))) | fail)))); (refine wpQuiet_nil ?_); intro _ hw'; obtain ⟨⟨dq, osq⟩, hw''⟩ := hw'; (subst hw''); replace H := H.next (below_regrown _ dq osq)
  have en := EN.out
  go_wp2_with (first | (refine wpList_mboxA rfl _ _ rfl H _ rfl ?_; clear H; intro _ w1 _ H) | go_skip | (refine gate_load _ _ rfl ?_; first | (refine wpList_mload rfl 25 _ rfl _ _ rfl 0 H _ #[.int .u8 _, .int .u8 _] rfl (by decide +kernel) (by kernel_rfl) (part2 rfl rfl) ?_) | (refine wpList_mload1 rfl _ _ rfl _ _ rfl 0 H _ (.int _ _) rfl rfl (by decide +kernel) ?_) | (refine wpList_mload1 rfl _ _ rfl _ _ rfl 0 H _ (.bool _) rfl rfl (by decide +kernel) ?_)) | fail)
  · go_ret
    have hz := HZZ.out
    have h' : z = false := by simpa using (by assumption : (!z) = true)
    have hb : okB c = false := Bool.eq_false_iff.2 (fun h => by
      obtain ⟨_, _, _, e1, e2⟩ := (okB_iff c).1 h
      rw [h', e1, e2] at hz
      simp at hz)
    exact ⟨by rw [hb]; rfl, H.toBelow⟩
  · go_ret
    have hz := HZZ.out
    have h' : z = true := by simpa using (by assumption : (!z) = false)
    rw [h', Bool.and_eq_true, beq_iff_eq, beq_iff_eq] at hz
    have hb : okB c = true := (okB_iff c).2 ⟨⟨by omega, by omega⟩, ⟨by omega, by omega⟩, ⟨by omega, by omega⟩, hz.1.symm, hz.2.symm⟩
    exact ⟨by rw [hb]; rfl, H.toBelow⟩
end Go.Proofs.YtopmlmpadkdhjaaGreatDoor
namespace Go.Proofs.YtopmlmpadkdhjaaGreatDoor
open Go.RowKit

def setP (s : Wk) (off : Nat) (v : Int) (b : Bool) : Option Wk := match off with
  | 0 => some (s.uA v b)
  | 2 => some (s.uX v b)
  | 4 => some (s.uY v b)
  | 6 => some (s.uS v b)
  | 16 => some (s.uD v b)
  | _ => none
def setB (s : Wk) (off : Nat) (b : Bool) : Option Wk := match off with
  | 11 => some (s.uPCS b)
  | 15 => some (s.uAdS b)
  | 18 => some (s.uCr b)
  | 20 => some (s.uNmi b)
  | 21 => some (s.uGot b)
  | 23 => some (s.uCtl b)
  | 24 => some (s.uJam b)
  | _ => none
def setI (s : Wk) (off : Nat) (k : IntKind) (n : Int) : Option Wk := match off, k with
  | 6, .u8 => some (s.uSV n)
  | 10, .u16 => some (s.uPC n)
  | 12, .u8 => some (s.uOp n)
  | 13, .i64 => some (s.uT n)
  | 14, .u16 => some (s.uAd n)
  | 19, .i64 => some (s.uIntr n)
  | 22, .i64 => some (s.uPend n)
  | 33, .i64 => some (s.uNx n)
  | _, _ => none
theorem st_B {s S : Wk} {off : Nat} {b : Bool} (h : setB s off b = some S) : (splice (wkC s).toList off (Value.cells (.bool b)).toList).toArray = wkC S := by
  unfold setB at h
  split at h <;> first | (cases h; done) | (injection h with h; subst h; rfl)
theorem st_I {s S : Wk} {off : Nat} {k : IntKind} {n : Int} (h : setI s off k n = some S) : (splice (wkC s).toList off (Value.cells (.int k n)).toList).toArray = wkC S := by
  unfold setI at h
  split at h <;> first | (cases h; done) | (injection h with h; subst h; rfl)
end Go.Proofs.YtopmlmpadkdhjaaGreatDoor
