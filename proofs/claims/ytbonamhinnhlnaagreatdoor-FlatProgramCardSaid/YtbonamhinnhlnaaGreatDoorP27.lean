/-
  Several texts in one: what is read and written by the functions on the way to the statements. Conditions stand in each theorem.
-/
import Derived.Test.YtbonamhinnhlnaaGreatDoorP15
import Derived.Test.YtbonamhinnhlnaaGreatDoorP23
import Derived.Test.YtbonamhinnhlnaaGreatDoorP24
import Derived.Test.YtbonamhinnhlnaaGreatDoorP26
import Derived.Test.YtbonamhinnhlnaaGreatDoorP17
import Derived.Test.YtbonamhinnhlnaaGreatDoorP16
import Derived.Test.YtbonamhinnhlnaaGreatDoorP18
import Derived.Test.YtbonamhinnhlnaaGreatDoorP09
namespace Go.Proofs.YtbonamhinnhlnaaGreatDoor
open Go.RowKit
set_option linter.unusedSimpArgs false
set_option linter.unusedVariables false
set_option maxRecDepth 20000

set_option maxHeartbeats 2000000 in
theorem begin_ct (s : Wk) (F : Fiw s) : CM 83 s (beginW s) := by
  intro R T w hR
  have HZB := Lib.hid alloc_by
  have HZU := Lib.hid alloc_bus
  have H := Mem.begin hR
  clear hR
  go_enter Tryz.func83, Tryz.ntmps83
  go_wp2_with (first | go_skip | (refine gate_load _ _ rfl ?_; first | (refine wpList_mload1 rfl _ _ rfl _ _ rfl 0 H _ (.int _ _) rfl rfl (by decide +kernel) ?_) | (refine wpList_mload1 rfl _ _ rfl _ _ rfl 0 H _ (.bool _) rfl rfl (by decide +kernel) ?_)) | (refine gate_store _ _ _ rfl ?_; (first | (refine wpList_mstore rfl 23 _ _ rfl rfl _ _ rfl 0 H _ _ rfl (.agg #[.int .u8 _, .bool _]) rfl (by kernel_rfl) (of_decide_eq_true (by kernel_rfl)) (by kernel_rfl) (by first | with_reducible exact st_D _ _ _) ?_) | (refine wpList_mstore rfl _ _ _ rfl rfl _ _ rfl 0 H _ _ rfl (.int _ _) rfl (by kernel_rfl) (of_decide_eq_true (by kernel_rfl)) (by kernel_rfl) (by first | with_reducible exact st_PC _ _ | with_reducible exact st_Op _ _ | with_reducible exact st_Ad _ _) ?_) | (refine wpList_mstore rfl _ _ _ rfl rfl _ _ rfl 0 H _ _ rfl (.bool _) rfl (by kernel_rfl) (of_decide_eq_true (by kernel_rfl)) (by kernel_rfl) (by first | with_reducible exact st_AdS _ _ | with_reducible exact st_Cr _ _ | with_reducible exact st_Ctl _ _) ?_)); clear H; intro w1 H; simp only [List.set_cons_zero, List.set_cons_succ] at H) | fail)
  (try simp only [IntKind.wrap_u16, IntKind.wrap_u8] at H)
  all_goals (first | refine fall rfl rfl ?_ | refine fallr rfl rfl ?_)
  all_goals (refine ⟨rfl, ?_⟩; first | (refine (H.only (i := 0) rfl).asW ?_; clear H; simp_all [IntKind.wrap_u16, IntKind.wrap_u8, Wk.uA, Wk.uX, Wk.uY, Wk.uS, Wk.uSV, Wk.uF, Wk.uPC, Wk.uPCS, Wk.uOp, Wk.uT, Wk.uAd, Wk.uAdS, Wk.uD, Wk.uCr, Wk.uIntr, Wk.uNmi, Wk.uGot, Wk.uPend, Wk.uCtl, Wk.uJam, Wk.uNx, Wk.uIs, doM, onW, keepW, jumpW, pushedW, pulledW, addW, reachW, begunW, beginW, branchW, aimW, crossW, loadA, loadX, loadY, flagW, cmpW, endW, hearW, turnW]; done))

set_option maxHeartbeats 2000000 in
theorem end_ct (s : Wk) : CM 54 s (endW s) := by
  intro R T w hR
  have HZB := Lib.hid alloc_by
  have HZU := Lib.hid alloc_bus
  have H := Mem.begin hR
  clear hR
  go_enter Tryz.func54, Tryz.ntmps54
  go_wp2_with (first | go_skip | (refine gate_load _ _ rfl ?_; first | (refine wpList_mload1 rfl _ _ rfl _ _ rfl 0 H _ (.int _ _) rfl rfl (by decide +kernel) ?_)) | (refine gate_store _ _ _ rfl ?_; (first | (refine wpList_mstore rfl _ _ _ rfl rfl _ _ rfl 0 H _ _ rfl (.int _ _) rfl (by kernel_rfl) (of_decide_eq_true (by kernel_rfl)) (by kernel_rfl) (by first | with_reducible exact st_T _ _ | with_reducible exact st_Intr _ _) ?_) | (refine wpList_mstore rfl _ _ _ rfl rfl _ _ rfl 0 H _ _ rfl (.bool _) rfl (by kernel_rfl) (of_decide_eq_true (by kernel_rfl)) (by kernel_rfl) (by first | with_reducible exact st_Got _ _) ?_)); clear H; intro w1 H; simp only [List.set_cons_zero, List.set_cons_succ] at H) | fail)
  (try simp only [IntKind.wrap_u16, IntKind.wrap_u8] at H)
  all_goals (first | refine fall rfl rfl ?_ | refine fallr rfl rfl ?_)
  all_goals (refine ⟨rfl, ?_⟩; first | (refine (H.only (i := 0) rfl).asW ?_; clear H; simp_all [IntKind.wrap_u16, IntKind.wrap_u8, Wk.uA, Wk.uX, Wk.uY, Wk.uS, Wk.uSV, Wk.uF, Wk.uPC, Wk.uPCS, Wk.uOp, Wk.uT, Wk.uAd, Wk.uAdS, Wk.uD, Wk.uCr, Wk.uIntr, Wk.uNmi, Wk.uGot, Wk.uPend, Wk.uCtl, Wk.uJam, Wk.uNx, Wk.uIs, doM, onW, keepW, jumpW, pushedW, pulledW, addW, reachW, begunW, beginW, branchW, aimW, crossW, loadA, loadX, loadY, flagW, cmpW, endW, hearW, turnW]; done))

end Go.Proofs.YtbonamhinnhlnaaGreatDoor
namespace Go.Proofs.YtbonamhinnhlnaaGreatDoor
open Go.RowKit
set_option linter.unusedSimpArgs false
set_option linter.unusedVariables false
set_option maxRecDepth 20000

theorem ads_change (s : Wk) (v : Int) (b : Bool) : (changeM s v b).1.ads = s.ads := byName_all changesL s.nm _ (fun f => (f s v b).1.ads = s.ads) rfl (by
  intro e he
  simp only [changesL, List.mem_cons, List.not_mem_nil, or_false] at he
  rcases he with rfl | rfl | rfl | rfl | rfl | rfl | rfl | rfl | rfl | rfl | rfl | rfl
  all_goals rfl)
theorem put_same (s : Wk) (u : Int) (c : Bool) (v : Int) (b : Bool) : putB (changeM s u c).1 v b = putB s v b := by
  unfold putB
  rw [(kn_change s u c).ad, ads_change]
set_option maxHeartbeats 2000000 in
theorem putchanged_ct (s : Wk) (F : Fiw s) (h : changesL.any (fun e => nmEq e.1 s.nm) = true) : CA 150 s (askM .changed s) := by
  intro w
  have hc0 := change_ct s s.dv s.db F.f.d0 F.f.d1 F h
  have hq0 : ∀ v b, putB (changeM s s.dv s.db).1 v b = putB s v b := fun v b => put_same s s.dv s.db v b
  show Calls Tryz.prog _ _ w fun e w' => e = .returned (.agg (bsC (putB s (changeM s s.dv s.db).2.1 (changeM s s.dv s.db).2.2))) ∧ _
  generalize changeM s s.dv s.db = q at *
  have CH := Lib.hid hc0
  have CP := Lib.hid (fun wr => (show Calls Tryz.prog 182 #[.agg (wkC q.1), .agg #[.int .u8 q.2.1, .bool q.2.2]] wr fun e w' => e = .returned (.agg (bsC (putB s q.2.1 q.2.2))) ∧ Below wr.heap.size wr w' from by have := put_ct q.1 q.2.1 q.2.2 wr; rw [hq0 q.2.1 q.2.2] at this; exact this))
  clear hq0 hc0
  have HZB := Lib.hid alloc_by
  have HZU := Lib.hid alloc_bus
  have H := Mem.start w
  have MR1 : True := trivial
  have MR2 : True := trivial
  have MR3 : True := trivial
  go_enter Tryz.func150, Tryz.ntmps150
  go_wp2_with (first | (go_at_call 116; obtain ⟨T0, hT⟩ := H.get (i := 1) rfl; (with_reducible refine Calls.mono (CH.out _ _ _ hT) ?_); rintro e w2 ⟨rfl, hm⟩; replace H := H.call (i := 1) rfl hm; clear hm hT; simp only [List.set_cons_zero, List.set_cons_succ] at H) | (go_at_call 182; (with_reducible refine (CP.out _).mono ?_); rintro e w2 ⟨rfl, hB⟩; replace H := H.next hB; clear hB) | (refine wpList_mboxA rfl _ _ rfl H _ rfl ?_; clear H; (first | (clear MR1; intro R1 w1 _ H) | (clear MR2; intro R2 w1 _ H) | (clear MR3; intro R3 w1 _ H))) | go_skip | (refine gate_load _ _ rfl ?_; first | (refine wpList_mloadA rfl 23 _ rfl _ rfl 0 H #[.int .u8 _, .bool _] rfl (by decide +kernel) (by kernel_rfl) ?_) | (refine wpList_mload rfl 23 _ rfl _ _ rfl 1 H _ #[.int .u8 _, .bool _] rfl (by decide +kernel) (by kernel_rfl) (part2 rfl rfl) ?_) | (refine wpList_mloadA rfl 104 _ rfl _ rfl 2 H (wkC _) rfl (by decide +kernel) (by kernel_rfl) ?_)) | (refine gate_store _ _ _ rfl ?_; (first | (refine wpList_mstoreA rfl 23 _ _ rfl rfl _ rfl 0 H #[.int .u8 _, .bool _] _ rfl rfl (by kernel_rfl) (by kernel_rfl) (by kernel_rfl) ?_) | (refine wpList_mstoreA rfl 36 _ _ rfl rfl _ rfl 1 H (bsC _) _ rfl rfl (by kernel_rfl) (by kernel_rfl) (by kernel_rfl) ?_)); clear H; intro w1 H; simp only [List.set_cons_zero, List.set_cons_succ] at H) | (refine wpList_mnew rfl _ rfl H _ HZB.out ?_; clear H; (first | (clear MR1; intro R1 w1 _ H) | (clear MR2; intro R2 w1 _ H) | (clear MR3; intro R3 w1 _ H))) | (refine wpList_mnew rfl _ rfl H _ HZU.out ?_; clear H; (first | (clear MR1; intro R1 w1 _ H) | (clear MR2; intro R2 w1 _ H) | (clear MR3; intro R3 w1 _ H))) | fail)
  first | refine ret_mem1 rfl _ rfl 0 H _ rfl (by kernel_rfl) (by kernel_rfl) rfl ?_ | refine ret_mem1 rfl _ rfl 1 H _ rfl (by kernel_rfl) (by kernel_rfl) rfl ?_ | refine ret_mem1 rfl _ rfl 2 H _ rfl (by kernel_rfl) (by kernel_rfl) rfl ?_
  exact ⟨rfl, H.toBelow⟩
/-- What an instruction's name must be, where it is asked. -/
def askOk (k : AskI) (s : Wk) : Prop := match k with
  | .stored => storesL.any (fun e => nmEq e.1 s.nm) = true
  | .changed => changesL.any (fun e => nmEq e.1 s.nm) = true
  | _ => True
def doOk (k : DoI) (s : Wk) : Prop := match k with
  | .alone => aloneL.any (fun e => nmEq e.1 s.nm) = true
  | .accA => changesL.any (fun e => nmEq e.1 s.nm) = true
  | .doOn => readsL.any (fun e => nmEq e.1 s.nm) = true
  | .cross => s.us = 1 → s.cr = false → readsL.any (fun e => nmEq e.1 s.nm) = true
  | .stored => storesL.any (fun e => nmEq e.1 s.nm) = true
  | .changed => changesL.any (fun e => nmEq e.1 s.nm) = true
  | .does => readsL.any (fun e => nmEq e.1 s.nm) = true
  | _ => True
theorem pushone_ct (s : Wk) (F : Fiw s) : CA 136 s (askM .one s) := by
  by_cases h : s.nm.toList = [80, 72, 80]
  · exact pushone_p s F h
  · exact pushone_a s F h
theorem ask_ct (k : AskI) (s : Wk) (F : Fiw s) (h : askOk k s) : CA (askF k) s (askM k s) := by
  cases k
  case pc => exact atpc_ct s
  case addr => exact ataddr_ct s
  case stack => exact atstack_ct s F
  case vec => exact atvec_ct s
  case vec1 => exact atvec1_ct s
  case fin => exact atend_ct s
  case high => exact pushhigh_ct s F
  case low => exact pushlow_ct s F
  case flags => exact pushflags_ct s F
  case one => exact pushone_ct s F
  case data => exact putdata_ct s
  case stored => exact putstored_ct s F h
  case changed => exact putchanged_ct s F h
theorem do_ct (k : DoI) (s : Wk) (F : Fiw s) (h : doOk k s) : CM (doF k) s (doM k s) := by
  cases k
  case begin => exact begin_ct s F
  case alone => exact doalone_ct s F h
  case accA => exact changea_ct s F h
  case doOn => exact doon_ct s F h
  case branch => exact branch_ct s F
  case aim => exact aim_ct s F
  case leave => exact leave_ct s
  case keepOn => exact keepon_ct s
  case addrOn => exact addron_ct s F
  case keepInPage => exact keeppage_ct s F
  case jump => exact jump_ct s F
  case jam => exact jam_ct s
  case rest => exact rest_ct s
  case pushed => exact pushed_ct s
  case pulled => exact pulled_ct s
  case pullData => exact pulldata_ct s
  case on => exact on_ct s
  case pullFlags => exact pullflags_ct s F.v0 F.v1
  case breakOn => exact breakon_ct s
  case keep => exact keep_ct s
  case interrupt => exact interrupt_ct s F
  case pullOne => exact pullone_ct s F
  case zeroOn => exact zeroon_ct s F
  case addX => exact addx_ct s F
  case addY => exact addy_ct s F
  case reachX => exact reachx_ct s F
  case reachY => exact reachy_ct s F
  case cross => exact cross_ct s F h
  case keepInZero => exact keepzero_ct s
  case point => exact point_ct s F
  case pointY => exact pointy_ct s F
  case stored => exact stored_ct s F h
  case changed => exact changed_ct s F h
  case does => exact does_ct s F h
/-- The table's names do. -/
def nameA (k : AskI) (n : ByteArray) : Bool := match k with
  | .stored => storesL.any (fun e => nmEq e.1 n)
  | .changed => changesL.any (fun e => nmEq e.1 n)
  | _ => true
def nameD (k : DoI) (u : Int) (n : ByteArray) : Bool := match k with
  | .alone => aloneL.any (fun e => nmEq e.1 n)
  | .accA => changesL.any (fun e => nmEq e.1 n)
  | .doOn => readsL.any (fun e => nmEq e.1 n)
  | .cross => u != 1 || readsL.any (fun e => nmEq e.1 n)
  | .stored => storesL.any (fun e => nmEq e.1 n)
  | .changed => changesL.any (fun e => nmEq e.1 n)
  | .does => readsL.any (fun e => nmEq e.1 n)
  | _ => true
theorem names_all (op : Int) (h0 : 0 ≤ op) (h1 : op < 256) : (stepsL (modeV op) (useV op)).all (fun e => nameA e.1 (nameV op) && nameD e.2 (useV op) (nameV op)) = true :=
  byte_all (p := fun op => (stepsL (modeV op) (useV op)).all (fun e => nameA e.1 (nameV op) && nameD e.2 (useV op) (nameV op)) = true) (by decide +kernel) op h0 h1
theorem nameA_ok {k : AskI} {s : Wk} (h : nameA k s.nm = true) : askOk k s := by cases k <;> first | exact h | trivial
theorem nameD_ok {k : DoI} {s : Wk} (h : nameD k s.us s.nm = true) : doOk k s := by
  cases k
  case cross =>
    intro h1 _
    have h2 : (s.us != 1 || readsL.any (fun e => nmEq e.1 s.nm)) = true := h
    rw [h1] at h2
    exact h2
  all_goals first | exact h | trivial
/-- In each cycle names are such as they must be. -/
theorem turn_names (s : Wk) (F : Fiw s) (c : Bool) : askOk (turnS s).1 (turnW s) ∧ doOk (turnS s).2 { turnW s with ctl := c } := by
  by_cases h0 : s.t = 0
  · have e : turnS s = (.pc, .begin) := by unfold turnS; rw [if_pos h0]
    rw [e]
    exact ⟨trivial, trivial⟩
  · have hn : (turnW s).nm = nameV s.op := by unfold turnW; rw [if_neg h0]; rfl
    have hu : (turnW s).us = useV s.op := by unfold turnW; rw [if_neg h0]; rfl
    have ha := names_all s.op F.f.op0 F.f.op1
    have e : turnS s = (stepsL (modeV s.op) (useV s.op)).getD (s.t - 1).toNat (.pc, .rest) := by unfold turnS; rw [if_neg h0]
    rw [List.getD_eq_getElem?_getD] at e
    cases hg : (stepsL (modeV s.op) (useV s.op))[(s.t - 1).toNat]? with
    | none =>
      rw [hg] at e
      rw [e]
      exact ⟨trivial, trivial⟩
    | some x =>
      rw [hg] at e
      have hx := List.all_eq_true.1 ha x (List.mem_of_getElem? hg)
      rw [Bool.and_eq_true] at hx
      rw [e]
      refine ⟨nameA_ok (by rw [hn]; exact hx.1), nameD_ok ?_⟩
      show nameD x.2 (turnW s).us (turnW s).nm = true
      rw [hn, hu]
      exact hx.2
end Go.Proofs.YtbonamhinnhlnaaGreatDoor
namespace Go.Proofs.YtbonamhinnhlnaaGreatDoor
open Go.RowKit
set_option linter.unusedSimpArgs false
set_option linter.unusedVariables false
set_option maxRecDepth 20000

theorem w64 (n : Int) (h0 : -1000 ≤ n) (h1 : n ≤ 1000) : wrap64 n = n := by unfold wrap64; omega
theorem steps_len (md us : Int) : (stepsL md us).length < 100 := by
  have h1 := ahead_len md
  have h2 := works_len us
  have h3 := stack_len md
  unfold stepsL
  split
  · decide
  split
  · decide
  split
  · decide
  split
  · decide
  split
  · decide
  split
  · decide
  split
  · omega
  split
  · decide
  · rw [List.length_append]; omega
def Wk.uO (s : Wk) (op : Int) : Wk := s.uIs (nameV op) (modeV op) (useV op) (cycV (modeV op) (useV op)) (crossV (modeV op) (useV op)) (goodV op)
theorem st_O (s : Wk) (op : Int) : (splice (wkC s).toList 25 (Value.cells (.agg (decC op))).toList).toArray = wkC (s.uO op) := st_Is s _ _ _ _ _ _
theorem wk_isO (s : Wk) (op : Int) : ∀ j v, (decC op)[j]? = some v → (wkC (s.uO op))[25 + j]? = some v := wk_is (s.uO op)
theorem GlobO.turned {w w' : World} {R : Nat} {l : List (Nat × Array Value)} (h : GlobO w) (hR : R ≠ 0) (H : Mem w.heap.size [R] w w' l) : GlobO w' where
  cyc := fun i c hi => by
    have := h.cyc i c hi
    have e := H.block _ h.lt (by simpa using hR.symm)
    unfold World.cell? at this ⊢
    rw [e]
    exact this
  lt := Nat.lt_of_lt_of_le h.lt H.size
theorem GlobO.apart {w : World} {R : Nat} {T : TypeId} {s : Wk} (h : GlobO w) (hR : w.heap[R]? = some (.cells (wkC s) T)) : R ≠ 0 := fun e => by
  have h1 := h.cyc 1 0 rfl
  rw [← e, cell_of_row w R 1 _ T _ hR] at h1
  cases h1
set_option maxHeartbeats 8000000 in
theorem turn_0 (s : Wk) (F : Fiw s) (h0 : s.t = 0) : ∀ (R : Nat) (T : TypeId) (w : World) (G : GlobO w), w.heap[R]? = some (.cells (wkC s) T) → Calls Tryz.prog 52 #[.pointer (some ⟨R, 0, none⟩)] w fun e w' => e = .returned (.agg #[.func (.func (askF (turnS s).1)) #[] #[], .func (.func (doF (turnS s).2)) #[] #[]]) ∧ Mem w.heap.size [R] w w' [(R, wkC (turnW s))] := by
  intro R T w G hR
  have FF := F
  obtain ⟨⟨a0, a1, x0, x1, y0, y1, s0, s1, p0, p1, q0, q1, cp, cq, pc0, pc1, op0, op1, ad0, ad1, d0, d1⟩, v0, v1⟩ := F
  have F := FF
  clear cp cq FF
  have e0 : ∀ n, ((s.uNx n).t == 0) = true := fun n => by show (s.t == 0) = true; simp [h0]
  have HZB := Lib.hid alloc_by
  have HZU := Lib.hid alloc_bus
  have HZS := Lib.hid alloc_step
  have H := Mem.begin hR
  clear hR
  go_enter Tryz.func52, Tryz.ntmps52
  go_wp2_with (first | go_skip | (refine gate_load _ _ rfl ?_; first | (refine wpList_mload1 rfl _ _ rfl _ _ rfl 1 H _ (.int _ _) rfl rfl (by decide +kernel) ?_)) | (refine gate_store _ _ _ rfl ?_; (first | (refine wpList_mstoreA rfl 108 _ _ rfl rfl _ rfl 0 H #[_, _] _ rfl rfl (by kernel_rfl) (by kernel_rfl) (by kernel_rfl) ?_) | (refine wpList_mstore rfl _ _ _ rfl rfl _ _ rfl 1 H _ _ rfl (.int _ _) rfl (by kernel_rfl) (of_decide_eq_true (by kernel_rfl)) (by kernel_rfl) (by first | with_reducible exact st_Nx _ _) ?_)); clear H; intro w1 H; simp only [List.set_cons_zero, List.set_cons_succ] at H) | (refine wpList_mnew rfl _ rfl H _ HZS.out ?_; clear H; intro _ w1 _ H) | fail)
  refine ret_mem1 rfl _ rfl 0 H _ rfl (by kernel_rfl) (by kernel_rfl) rfl ?_
  have e1 : turnS s = (.pc, .begin) := by unfold turnS; rw [if_pos h0]
  refine ⟨by rw [e1]; rfl, ?_⟩
  refine (H.only (i := 1) rfl).asW ?_
  clear H
  unfold turnW
  rw [if_pos h0]
  have hw : IntKind.i64.wrap (s.t + 1) = 1 := by rw [h0]; rfl
  simp_all [Wk.uNx]

set_option maxHeartbeats 8000000 in
theorem turn_1 (s : Wk) (F : Fiw s) (h0 : s.t ≠ 0) (t0 : 0 ≤ s.t) (t1 : s.t < mostV s.op) : ∀ (R : Nat) (T : TypeId) (w : World) (G : GlobO w), w.heap[R]? = some (.cells (wkC s) T) → Calls Tryz.prog 52 #[.pointer (some ⟨R, 0, none⟩)] w fun e w' => e = .returned (.agg #[.func (.func (askF (turnS s).1)) #[] #[], .func (.func (doF (turnS s).2)) #[] #[]]) ∧ Mem w.heap.size [R] w w' [(R, wkC (turnW s))] := by
  intro R T w G hR
  have FF := F
  obtain ⟨⟨a0, a1, x0, x1, y0, y1, s0, s1, p0, p1, q0, q1, cp, cq, pc0, pc1, op0, op1, ad0, ad1, d0, d1⟩, v0, v1⟩ := F
  have F := FF
  clear cp cq FF
  have e0 : ∀ n, ((s.uNx n).t == 0) = false := fun n => by show (s.t == 0) = false; simp [h0]
  have et : ∀ (n : Int), ((s.uNx n).uO s.op).t = s.t := fun _ => rfl
  have et2 : ∀ (n m : Int), (((s.uNx n).uO s.op).uNx m).t = s.t := fun _ _ => rfl
  have QD := Lib.hid (fun (n : Int) (wr : World) (g : GlobO wr) => (show Calls Tryz.prog 50 #[.int .u8 (s.uNx n).op] wr fun e w' => e = .returned (.agg (decC s.op)) ∧ Below wr.heap.size wr w' from qdec_ct s.op wr g op0 op1))
  have QS := Lib.hid (fun (wr : World) => (show Calls Tryz.prog 84 #[.agg (decC s.op)] wr (StepP (stepsL (modeV s.op) (useV s.op)) wr) from steps_ct _ _ _ _ _ _ wr))
  have tb := (tab_all s.op op0 op1).1
  have GG := Lib.hid G
  have hRg := G.apart hR
  have lt : s.t.toNat - 1 < (stepsL (modeV s.op) (useV s.op)).length := by omega
  obtain ⟨x, hx⟩ : ∃ x, (stepsL (modeV s.op) (useV s.op))[s.t.toNat - 1]? = some x := ⟨_, List.getElem?_eq_getElem lt⟩
  obtain ⟨n, hn⟩ : ∃ n, (stepsL (modeV s.op) (useV s.op)).length = n := ⟨_, rfl⟩
  have HX := Lib.hid hx
  have ub : (stepsL (modeV s.op) (useV s.op)).length < 100 := steps_len _ _
  have hK : (wrap64 (s.t - 1)).toNat = s.t.toNat - 1 := by rw [w64 _ (by omega) (by omega)]; omega
  have hw1 : wrap64 (s.t + 1) = s.t + 1 := w64 _ (by omega) (by omega)
  have HW1 := Lib.hid hw1
  have hwm : wrap64 (s.t - 1) = s.t - 1 := w64 _ (by omega) (by omega)
  have b1 : 0 ≤ s.t - 1 := by omega
  have b2 : s.t - 1 < (n : Int) := by omega
  have ex : turnS s = x := by unfold turnS; rw [if_neg h0, show (s.t - 1).toNat = s.t.toNat - 1 by omega, List.getD_eq_getElem?_getD, hx]; rfl
  have HEX := Lib.hid ex
  have HN := Lib.hid hn
  clear hx ex hw1 lt ub tb
  have HZB := Lib.hid alloc_by
  have HZU := Lib.hid alloc_bus
  have HZS := Lib.hid alloc_step
  have H := Mem.begin hR
  clear hR
  go_enter Tryz.func52, Tryz.ntmps52
  go_wp2_with (first | (go_at_call 50; (with_reducible refine (QD.out _ _ (GG.out.turned hRg H)).mono ?_); rintro e w2 ⟨rfl, hB⟩; replace H := H.next hB; clear hB) | (go_at_call 84; (with_reducible refine (QS.out _).mono ?_); intro e w2 hB; obtain ⟨v, blk, rfl, hA, hm⟩ := hB; obtain ⟨R2, cs, cap, rfl, rfl, hc1, hc2, hat⟩ := hA.elem stc_len _ _ HX.out; replace H := H.join hm; rw [List.cons_append, List.nil_append] at H; clear hm hA) | go_skip | (refine gate_load _ _ rfl ?_; first | (refine wpList_mload rfl 108 _ rfl _ _ rfl 0 H _ (stc x).toArray rfl (by decide +kernel) (by kernel_rfl) (fun j v h => hat j v (by simpa using h)) ?_)) | (refine gate_load _ _ rfl ?_; (refine wpList_mload rfl 72 _ rfl _ _ rfl 1 H _ (decC s.op) rfl (by decide +kernel) (by kernel_rfl) (wk_isO _ _) ?_)) | (refine gate_store _ _ _ rfl ?_; (refine wpList_mstore rfl 72 _ _ rfl rfl _ _ rfl 1 H _ _ rfl (.agg (decC s.op)) rfl (by kernel_rfl) (of_decide_eq_true (by kernel_rfl)) (by kernel_rfl) (st_O _ _) ?_); clear H; intro w1 H; simp only [List.set_cons_zero, List.set_cons_succ] at H) | (refine gate_load _ _ rfl ?_; first | (refine wpList_mload1 rfl _ _ rfl _ _ rfl 1 H _ (.int _ _) rfl rfl (by decide +kernel) ?_) | (refine wpList_mload1 rfl _ _ rfl _ _ rfl 2 H _ (.int _ _) rfl rfl (by decide +kernel) ?_)) | (refine gate_store _ _ _ rfl ?_; (first | (refine wpList_mstoreA rfl 108 _ _ rfl rfl _ rfl 1 H #[_, _] _ rfl rfl (by kernel_rfl) (by kernel_rfl) (by kernel_rfl) ?_) | (refine wpList_mstore rfl _ _ _ rfl rfl _ _ rfl 1 H _ _ rfl (.int _ _) rfl (by kernel_rfl) (of_decide_eq_true (by kernel_rfl)) (by kernel_rfl) (by first | with_reducible exact st_Nx _ _) ?_) | (refine wpList_mstore rfl _ _ _ rfl rfl _ _ rfl 2 H _ _ rfl (.int _ _) rfl (by kernel_rfl) (of_decide_eq_true (by kernel_rfl)) (by kernel_rfl) (by first | with_reducible exact st_Nx _ _) ?_)); clear H; intro w1 H; simp only [List.set_cons_zero, List.set_cons_succ] at H) | (refine wpList_mnew rfl _ rfl H _ HZS.out ?_; clear H; intro _ w1 _ H) | fail)
  all_goals (
    refine ret_mem1 rfl _ rfl 1 H _ rfl (by kernel_rfl) (by kernel_rfl) rfl ?_
    refine ⟨by rw [HEX.out]; rfl, ?_⟩
    refine (H.only (i := 2) rfl).asW ?_
    clear H
    unfold turnW
    rw [if_neg h0]
    have hn2 := HN.out
    have hw2 := HW1.out
    clear QD QS HEX HN HW1
    simp_all [Wk.uNx, Wk.uO, Wk.uIs, opW])

end Go.Proofs.YtbonamhinnhlnaaGreatDoor
