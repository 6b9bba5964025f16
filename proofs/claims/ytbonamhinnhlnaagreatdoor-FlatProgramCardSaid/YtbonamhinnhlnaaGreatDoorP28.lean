/-
  Several texts in one: what is read and written by the functions on the way to the statements. Conditions stand in each theorem.
-/
import Derived.Test.YtbonamhinnhlnaaGreatDoorP27
import Derived.Test.YtbonamhinnhlnaaGreatDoorP15
import Derived.Test.YtbonamhinnhlnaaGreatDoorP10
namespace Go.Proofs.YtbonamhinnhlnaaGreatDoor
open Go.RowKit
set_option linter.unusedSimpArgs false
set_option linter.unusedVariables false
set_option maxRecDepth 20000

def mostO (md cy : Int) (xr : Bool) : Int := if md = 20 then 2 else if md = 11 then cy + 2 else if xr then cy + 1 else cy
section
variable {md cy : Int} {xr : Bool}
theorem most_1 (h : (md == 20) = true) : mostO md cy xr = 2 := if_pos (eq_of_beq h)
theorem most_n (h : (md == 20) = false) : mostO md cy xr = if md = 11 then cy + 2 else if xr then cy + 1 else cy := if_neg (by simpa using h)
theorem most_2 (h : (md == 20) = false) (h2 : (md == 11) = true) : mostO md cy xr = cy + 2 := by rw [most_n h, if_pos (eq_of_beq h2)]
theorem most_3 (h : (md == 20) = false) (h2 : (md == 11) = false) (h3 : xr = true) : mostO md cy xr = cy + 1 := by rw [most_n h, if_neg (by simpa using h2), if_pos h3]
theorem most_4 (h : (md == 20) = false) (h2 : (md == 11) = false) (h3 : xr = false) : mostO md cy xr = cy := by rw [most_n h, if_neg (by simpa using h2), if_neg (by simp [h3])]
end
set_option maxHeartbeats 2000000 in
theorem most_ct (nm : ByteArray) (md us cy : Int) (xr gd : Bool) (w : World) (c0 : 0 ≤ cy) (c1 : cy ≤ 20) : Calls Tryz.prog 49 #[.agg (opC nm md us cy xr gd)] w fun e w' => e = .returned (.int .i64 (mostO md cy xr)) ∧ Below w.heap.size w w' := by
  have H := Mem.start w
  have W2 : wrap64 (cy + 2) = cy + 2 := w64 _ (by omega) (by omega)
  have W1 : wrap64 (cy + 1) = cy + 1 := w64 _ (by omega) (by omega)
  go_enter Tryz.func49, Tryz.ntmps49
  cases xr
  · go_wp2_with (first | (refine wpList_mboxA rfl _ _ rfl H _ rfl ?_; clear H; intro _ w1 _ H) | go_skip | (refine gate_load _ _ rfl ?_; first | (refine wpList_mload1 rfl _ _ rfl _ _ rfl 0 H _ (.int _ _) rfl rfl (by decide +kernel) ?_) | (refine wpList_mload1 rfl _ _ rfl _ _ rfl 0 H _ (.bool _) rfl rfl (by decide +kernel) ?_)) | fail)
    all_goals (
      go_ret
      refine ⟨?_, H.toBelow⟩
      first | (rw [most_1 (by assumption)]; rfl) | (rw [most_2 (by assumption) (by assumption)]; first | rfl | rw [← W2]) | (rw [most_4 (by assumption) (by assumption) rfl]; rfl))
  · go_wp2_with (first | (refine wpList_mboxA rfl _ _ rfl H _ rfl ?_; clear H; intro _ w1 _ H) | go_skip | (refine gate_load _ _ rfl ?_; first | (refine wpList_mload1 rfl _ _ rfl _ _ rfl 0 H _ (.int _ _) rfl rfl (by decide +kernel) ?_) | (refine wpList_mload1 rfl _ _ rfl _ _ rfl 0 H _ (.bool _) rfl rfl (by decide +kernel) ?_)) | fail)
    all_goals (
      go_ret
      refine ⟨?_, H.toBelow⟩
      first | (rw [most_1 (by assumption)]; rfl) | (rw [most_2 (by assumption) (by assumption)]; first | rfl | rw [← W2]) | (rw [most_3 (by assumption) (by assumption) rfl]; first | rfl | rw [← W1]))
theorem stood_fl : Tryz.prog.stoodInHeld 25 = false := by kernel_rfl
theorem struct_fl : Tryz.prog.underlying 25 = some (.struct (Tryz.prog.fieldsOf 25)) := by kernel_rfl
theorem neq_fl (a b c d : Int) (w : World) : (binOp .neq 25 (.agg #[.int .u8 a, .int .u8 b]) (.agg #[.int .u8 c, .int .u8 d])).run Tryz.prog w = .ok (.bool (!(a == c && b == d))) w := by
  have u3 := Tryz.underlying5
  have a3 := Tryz.isAgg5
  have z3 := Tryz.sizeOf5
  rw [run_neq_struct, show (10000 : Nat) = 9999 + 1 from rfl, run_equalIn_agg w 9999 25 _ _ struct_fl stood_fl]
  simp only [Program.fieldsOf, Tryz.underlying25]
  go_simp
  by_cases h1 : a = c <;> by_cases h2 : b = d <;> simp [h1, h2]
def errI (b : Bool) : Int := if b then 0 else 1
theorem cyc_le (op : Int) (h0 : 0 ≤ op) (h1 : op < 256) : 0 ≤ cycV (modeV op) (useV op) ∧ cycV (modeV op) (useV op) ≤ 20 := byte_all (p := fun op => 0 ≤ cycV (modeV op) (useV op) ∧ cycV (modeV op) (useV op) ≤ 20) (by decide +kernel) op h0 h1
set_option maxHeartbeats 4000000 in
theorem kcheck_ct (c : Cp) (w : World) (G : GlobO w) (p0 : 0 ≤ c.p) (p1 : c.p < 256) (q0 : 0 ≤ c.ps) (q1 : c.ps < 256) (op0 : 0 ≤ c.op) (op1 : c.op < 256) : Calls Tryz.prog 28 #[.agg (cpC c)] w fun e w' => e = .returned (.int .i64 (errI (okB c))) ∧ Below w.heap.size w w' := by
  have GG := Lib.hid G
  have cl := cyc_le c.op op0 op1
  have QM := Lib.hid (fun wr => (show Calls Tryz.prog 49 #[.agg (decC c.op)] wr fun e w' => e = .returned (.int .i64 (mostV c.op)) ∧ Below wr.heap.size wr w' from most_ct _ _ _ _ _ _ wr cl.1 cl.2))
  clear G cl
  obtain ⟨z, hz⟩ : ∃ z, (c.p == clr c.p && c.ps == clr c.ps) = z := ⟨_, rfl⟩
  have EN := Lib.hid (fun W => (neq_fl c.p c.ps (clr c.p) (clr c.ps) W).trans (by rw [hz]))
  have HZZ := Lib.hid hz
  have eg : Tryz.prog.eqGuardType Tryz.prog.depth 25 = false := by kernel_rfl
  clear hz
  have H := Mem.start w
  go_enter Tryz.func28, Tryz.ntmps28
  go_wp2_with (first | (refine wpList_mboxA rfl _ _ rfl H _ rfl ?_; clear H; intro _ w1 _ H) | go_skip | (refine gate_load _ _ rfl ?_; first | (refine wpList_mload1 rfl _ _ rfl _ _ rfl 0 H _ (.int _ _) rfl rfl (by decide +kernel) ?_)) | fail)
  · go_ret
    exact ⟨by rw [show okB c = false from Bool.eq_false_iff.2 (fun h => by have := (okB_iff c).1 h; omega)]; rfl, H.toBelow⟩
  (try simp only [Act.put, List.setIfInBounds_toArray, List.set_cons_succ, List.set_cons_zero])
  (refine wp_region_tails_below 7 (by kernel_rfl) (by kernel_rfl) ?_); (simp only [List.take_succ_cons, List.take_zero, List.drop_succ_cons, List.drop_zero]); (repeat (first | (go_big_quiet_want; refine gate_qload _ _ rfl ?_; (first | (refine quiet_mload1 _ _ rfl _ _ rfl 0 H _ (.int _ _) rfl rfl (by decide +kernel) ?_)); simp only [Act.put, List.setIfInBounds_toArray, List.set_cons_succ, List.set_cons_zero]; go_big_quiet_on) | go_big_quiet_step ((first | (go_at_call 50; (with_reducible exact Calls.regrown_of (qdec_ct _ _ (GG.out.mem (H.next (below_regrown _ _ _))) op0 op1))) | (go_at_call 49; (with_reducible exact Calls.regrown_of (QM.out _))) | fail)))); (refine wpQuiet_nil ?_); intro _ hw'; obtain ⟨⟨dq, osq⟩, hw''⟩ := hw'; (subst hw''); replace H := H.next (below_regrown _ dq osq)
  go_wp2_with (first | go_skip | (refine gate_load _ _ rfl ?_; first | (refine wpList_mload1 rfl _ _ rfl _ _ rfl 0 H _ (.int _ _) rfl rfl (by decide +kernel) ?_)) | fail)
  all_goals first | (go_ret; exact ⟨by rw [show okB c = false from Bool.eq_false_iff.2 (fun h => by have := (okB_iff c).1 h; omega)]; rfl, H.toBelow⟩) | skip
  (try simp only [Act.put, List.setIfInBounds_toArray, List.set_cons_succ, List.set_cons_zero])
  (refine wp_region_tails_below 5 (by kernel_rfl) (by kernel_rfl) ?_); (simp only [List.take_succ_cons, List.take_zero, List.drop_succ_cons, List.drop_zero]); (repeat (first | (go_big_quiet_want; refine gate_qload _ _ rfl ?_; (first | (refine quiet_mload 25 _ rfl _ _ rfl 0 H _ #[.int .u8 _, .int .u8 _] rfl (by decide +kernel) (by kernel_rfl) (part2 rfl rfl) ?_)); simp only [Act.put, List.setIfInBounds_toArray, List.set_cons_succ, List.set_cons_zero]; go_big_quiet_on) | go_big_quiet_step ((first | (go_at_call 51; (with_reducible exact Calls.regrown_of (acheck_ct _ _ _ p0 p1 q0 q1))) | fail)))); (refine wpQuiet_nil ?_); intro _ hw'; obtain ⟨⟨dq, osq⟩, hw''⟩ := hw'; (subst hw''); replace H := H.next (below_regrown _ dq osq)
  have en := EN.out
  go_wp2_with (first | go_skip | fail)
  · go_ret
    have hz := HZZ.out
    have h' : z = false := by simpa using (by assumption : (!z) = true)
    have hb : okB c = false := Bool.eq_false_iff.2 (fun h => by
      obtain ⟨_, _, _, e1, e2⟩ := (okB_iff c).1 h
      rw [h', e1, e2] at hz
      simp at hz)
    exact ⟨by rw [hb]; rfl, H.toBelow⟩
  · go_ret
    have hz := HZZ.out
    have h' : z = true := by simpa using (by assumption : (!z) = false)
    rw [h', Bool.and_eq_true, beq_iff_eq, beq_iff_eq] at hz
    have hb : okB c = true := (okB_iff c).2 ⟨⟨by omega, by omega⟩, ⟨by omega, by omega⟩, ⟨by omega, by omega⟩, hz.1.symm, hz.2.symm⟩
    exact ⟨by rw [hb]; rfl, H.toBelow⟩
end Go.Proofs.YtbonamhinnhlnaaGreatDoor
namespace Go.Proofs.YtbonamhinnhlnaaGreatDoor
open Go.RowKit

def setB (s : Wk) (off : Nat) (b : Bool) : Option Wk := match off with
  | 11 => some (s.uPCS b)
  | 15 => some (s.uAdS b)
  | 18 => some (s.uCr b)
  | 20 => some (s.uNmi b)
  | 21 => some (s.uGot b)
  | 23 => some (s.uCtl b)
  | 24 => some (s.uJam b)
  | _ => none
def setI (s : Wk) (off : Nat) (k : IntKind) (n : Int) : Option Wk := match off, k with
  | 6, .u8 => some (s.uSV n)
  | 10, .u16 => some (s.uPC n)
  | 12, .u8 => some (s.uOp n)
  | 13, .i64 => some (s.uT n)
  | 14, .u16 => some (s.uAd n)
  | 19, .i64 => some (s.uIntr n)
  | 22, .i64 => some (s.uPend n)
  | 33, .i64 => some (s.uNx n)
  | _, _ => none
theorem st_B {s S : Wk} {off : Nat} {b : Bool} (h : setB s off b = some S) : (splice (wkC s).toList off (Value.cells (.bool b)).toList).toArray = wkC S := by
  unfold setB at h
  split at h <;> first | (cases h; done) | (injection h with h; subst h; rfl)
theorem st_I {s S : Wk} {off : Nat} {k : IntKind} {n : Int} (h : setI s off k n = some S) : (splice (wkC s).toList off (Value.cells (.int k n)).toList).toArray = wkC S := by
  unfold setI at h
  split at h <;> first | (cases h; done) | (injection h with h; subst h; rfl)
end Go.Proofs.YtbonamhinnhlnaaGreatDoor
