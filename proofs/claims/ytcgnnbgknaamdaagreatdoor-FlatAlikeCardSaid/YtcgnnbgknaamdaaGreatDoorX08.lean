/-
  Several texts in one: what is read and written by the functions on the way to the statements. Conditions stand in each theorem.
-/
import Derived.Test.YtcgnnbgknaamdaaGreatDoorX02
import Derived.Test.YtcgnnbgknaamdaaGreatDoorX07
namespace Go.Proofs.YtcgnnbgknaamdaaGreatDoor
open Go.RowKit
set_option linter.unusedSimpArgs false
set_option linter.unusedVariables false
set_option maxRecDepth 20000

theorem alloc_fl (w : World) : (Instr.alloc 25 true (.tuple #[])).run Tryz.prog w = .ok (.pointer (some ⟨w.heap.size, 0, none⟩)) (w.alloc (.cells #[.int .u8 0, .int .u8 0] 25)) := by kernel_rfl
theorem alloc_by (w : World) : (Instr.alloc 23 true (.tuple #[])).run Tryz.prog w = .ok (.pointer (some ⟨w.heap.size, 0, none⟩)) (w.alloc (.cells #[.int .u8 0, .bool false] 23)) := by kernel_rfl
theorem build_by1 (a : Int) (x : Bool) (w : World) : (Instr.buildSlice 29 1 #[(0, .agg #[.int .u8 a, .bool x])]).run Tryz.prog w = .ok (.slice (some ⟨w.heap.size, 0, none⟩) 1 1) (w.alloc (.cells #[.int .u8 a, .bool x] 23)) := by kernel_rfl
theorem build_by2 (a : Int) (x : Bool) (b : Int) (y : Bool) (w : World) : (Instr.buildSlice 29 2 #[(0, .agg #[.int .u8 a, .bool x]), (1, .agg #[.int .u8 b, .bool y])]).run Tryz.prog w = .ok (.slice (some ⟨w.heap.size, 0, none⟩) 2 2) (w.alloc (.cells #[.int .u8 a, .bool x, .int .u8 b, .bool y] 23)) := by kernel_rfl
theorem build_by3 (a : Int) (x : Bool) (b : Int) (y : Bool) (c : Int) (z : Bool) (w : World) : (Instr.buildSlice 29 3 #[(0, .agg #[.int .u8 a, .bool x]), (1, .agg #[.int .u8 b, .bool y]), (2, .agg #[.int .u8 c, .bool z])]).run Tryz.prog w = .ok (.slice (some ⟨w.heap.size, 0, none⟩) 3 3) (w.alloc (.cells #[.int .u8 a, .bool x, .int .u8 b, .bool y, .int .u8 c, .bool z] 23)) := by kernel_rfl
theorem field_fl (p s : Int) (w : World) : (Instr.field 25 (.agg #[.int .u8 p, .int .u8 s]) 0).run Tryz.prog w = .ok (.int .u8 p) w := by kernel_rfl
/-- Rows in blocks known whole. -/
theorem rd1_of {w : World} {R : Nat} {a : Int} {x : Bool} {T : TypeId} (h : w.heap[R]? = some (.cells #[.int .u8 a, .bool x] T)) : Rd w (.slice (some ⟨R, 0, none⟩) 1 1) [(a, x)] :=
  rd1c (Array.getElem?_eq_some_iff.1 h).1 (cell_of_row w R 0 _ T _ h) (cell_of_row w R 1 _ T _ h)
theorem rd2_of {w : World} {R : Nat} {a b : Int} {x y : Bool} {T : TypeId} (h : w.heap[R]? = some (.cells #[.int .u8 a, .bool x, .int .u8 b, .bool y] T)) : Rd w (.slice (some ⟨R, 0, none⟩) 2 2) [(a, x), (b, y)] :=
  rd2c (Array.getElem?_eq_some_iff.1 h).1 (cell_of_row w R 0 _ T _ h) (cell_of_row w R 1 _ T _ h) (cell_of_row w R 2 _ T _ h) (cell_of_row w R 3 _ T _ h)
theorem rd3_of {w : World} {R : Nat} {a b c : Int} {x y z : Bool} {T : TypeId} (h : w.heap[R]? = some (.cells #[.int .u8 a, .bool x, .int .u8 b, .bool y, .int .u8 c, .bool z] T)) : Rd w (.slice (some ⟨R, 0, none⟩) 3 3) [(a, x), (b, y), (c, z)] := by
  refine ⟨_, _, rfl, by simp, by simp [maxLen], .inr ⟨R, 0, rfl, (Array.getElem?_eq_some_iff.1 h).1, fun k hk => ?_⟩⟩
  match k, hk with
  | 0, _ => exact ⟨cell_of_row w R 0 _ T _ h, cell_of_row w R 1 _ T _ h⟩
  | 1, _ => exact ⟨cell_of_row w R 2 _ T _ h, cell_of_row w R 3 _ T _ h⟩
  | 2, _ => exact ⟨cell_of_row w R 4 _ T _ h, cell_of_row w R 5 _ T _ h⟩
section
variable {n : Nat} {X : List Nat} {w0 w : World} {l : List (Nat × Array Value)} {R : Nat}
theorem of1_ct (v a : Int) (x : Bool) (H : Mem n X w0 w l) (i : Nat) (hi : l[i]? = some (R, #[.int .u8 a, .bool x])) :
    Calls Tryz.prog 166 #[.int .u8 v, .slice (some ⟨R, 0, none⟩) 1 1] w fun e w' => e = .returned (.agg #[.int .u8 v, .bool x]) ∧ Below w.heap.size w w' := by
  obtain ⟨T, h⟩ := H.get hi
  have := of_ct v _ [(a, x)] w (rd1_of h)
  rw [anyS_one] at this
  exact this
theorem of2_ct (v a b : Int) (x y : Bool) (H : Mem n X w0 w l) (i : Nat) (hi : l[i]? = some (R, #[.int .u8 a, .bool x, .int .u8 b, .bool y])) :
    Calls Tryz.prog 166 #[.int .u8 v, .slice (some ⟨R, 0, none⟩) 2 2] w fun e w' => e = .returned (.agg #[.int .u8 v, .bool (x || y)]) ∧ Below w.heap.size w w' := by
  obtain ⟨T, h⟩ := H.get hi
  have := of_ct v _ [(a, x), (b, y)] w (rd2_of h)
  rw [anyS_two] at this
  exact this
theorem of3_ct (v a b c : Int) (x y z : Bool) (H : Mem n X w0 w l) (i : Nat) (hi : l[i]? = some (R, #[.int .u8 a, .bool x, .int .u8 b, .bool y, .int .u8 c, .bool z])) :
    Calls Tryz.prog 166 #[.int .u8 v, .slice (some ⟨R, 0, none⟩) 3 3] w fun e w' => e = .returned (.agg #[.int .u8 v, .bool (x || (y || z))]) ∧ Below w.heap.size w w' := by
  obtain ⟨T, h⟩ := H.get hi
  have := of_ct v _ [(a, x), (b, y), (c, z)] w (rd3_of h)
  rw [anyS_three] at this
  exact this
end

set_option maxHeartbeats 400000 in
theorem aone_ct (b : Bool) (w : World) : Calls Tryz.prog 99 #[.bool b] w fun e w' => e = .returned (.int .u8 (oneI b)) ∧ Below w.heap.size w w' := by
  cases b
  all_goals
    go_enter Tryz.func99, Tryz.ntmps99
    go_wp2
    go_ret
    exact ⟨rfl, Below.refl _ _⟩
set_option maxHeartbeats 1000000 in
theorem acheck_ct (p s : Int) (w : World) (p0 : 0 ≤ p) (p1 : p < 256) (s0 : 0 ≤ s) (s1 : s < 256) :
    Calls Tryz.prog 24 #[.agg #[.int .u8 p, .int .u8 s]] w fun e w' => e = .returned (.agg #[.int .u8 (clr p), .int .u8 (clr s)]) ∧ Below w.heap.size w w' := by
  rw [← hand207 p p0 p1, ← hand207 s s0 s1]
  clear p0 p1 s0 s1
  have HZ := Lib.hid alloc_fl
  have H := Mem.start w
  go_enter Tryz.func24, Tryz.ntmps24
  go_wp2_with (first | go_skip | (refine wpList_mboxA rfl _ _ rfl H _ rfl ?_; clear H; intro _ w1 _ H) | (refine gate_load _ _ rfl ?_; first | (refine wpList_mload1 rfl _ _ rfl _ _ rfl 1 H _ (.int _ _) rfl rfl (by decide +kernel) ?_)) | (refine gate_store _ _ _ rfl ?_; (first | (refine wpList_mstoreA rfl _ _ _ rfl rfl _ rfl 0 H _ _ rfl rfl (by kernel_rfl) (by kernel_rfl) (by kernel_rfl) ?_)); clear H; intro w1 H; simp only [List.set_cons_zero, List.set_cons_succ] at H) | (refine wpList_mnew rfl _ rfl H _ HZ.out ?_; clear H; intro _ w1 _ H) | fail)
  refine ret_mem1 rfl _ rfl 0 H _ rfl (by kernel_rfl) (by kernel_rfl) rfl ?_
  exact ⟨rfl, H.toBelow⟩
/-- What comes back of 'over': a closure over flags of its own. -/
def OverP (p s : Int) (w : World) (e : Ending) (w' : World) : Prop := ∃ R T, e = .returned (.func (.func 186) #[] #[.pointer (some ⟨R, 0, none⟩)]) ∧ w.heap.size ≤ R ∧ Below w.heap.size w w' ∧ w'.heap[R]? = some (.cells #[.int .u8 (clr p), .int .u8 (clr s)] T)
set_option maxHeartbeats 1000000 in
theorem over_ct (p s : Int) (w : World) (p0 : 0 ≤ p) (p1 : p < 256) (s0 : 0 ≤ s) (s1 : s < 256) :
    Calls Tryz.prog 165 #[.agg #[.int .u8 p, .int .u8 s]] w (OverP p s w) := by
  have QC := Lib.hid (fun wr => acheck_ct p s wr p0 p1 s0 s1)
  clear p0 p1 s0 s1
  have H := Mem.start w
  go_enter Tryz.func165, Tryz.ntmps165
  go_wp2_with (first | (go_at_call 24; (with_reducible refine (QC.out _).mono ?_); rintro e w2 ⟨rfl, hB⟩; replace H := H.next hB; clear hB) | (refine wpList_mboxA rfl _ _ rfl H _ rfl ?_; clear H; intro R1 w1 hR1 H) | go_skip | (refine gate_load _ _ rfl ?_; first | (refine wpList_mloadA rfl _ _ rfl _ rfl 0 H _ rfl (by decide +kernel) (by kernel_rfl) ?_)) | (refine gate_store _ _ _ rfl ?_; (first | (refine wpList_mstoreA rfl _ _ _ rfl rfl _ rfl 0 H _ _ rfl rfl (by kernel_rfl) (by kernel_rfl) (by kernel_rfl) ?_)); clear H; intro w1 H; simp only [List.set_cons_zero, List.set_cons_succ] at H) | fail)
  have hT := H.get (i := 0) rfl
  go_ret
  obtain ⟨T, hT⟩ := hT
  exact ⟨_, T, rfl, hR1, H.toBelow, hT⟩
/-- What comes back of bits put over flags that lie in a block: flags as they are then; the block holds them. -/
def PutP (p s b : Int) (z x : Bool) (R : Nat) (w : World) (e : Ending) (w' : World) : Prop := e = .returned (.agg #[.int .u8 (pbV p b z), .int .u8 (pbV s b x)]) ∧ Mem w.heap.size [R] w w' [(R, #[.int .u8 (pbV p b z), .int .u8 (pbV s b x)])]
set_option maxHeartbeats 2000000 in
theorem aput_ct (p s b v : Int) (z x : Bool) (hz : (v != 0) = z) (R : Nat) (T : TypeId) (w : World) (p0 : 0 ≤ p) (p1 : p < 256) (s0 : 0 ≤ s) (s1 : s < 256) (b0 : 0 ≤ b) (b1 : b < 256) (hp : clr p = p) (hs : clr s = s) (hR : w.heap[R]? = some (.cells #[.int .u8 p, .int .u8 s] T)) :
    Calls Tryz.prog 186 #[.int .u8 b, .agg #[.int .u8 v, .bool x], .pointer (some ⟨R, 0, none⟩)] w (PutP p s b z x R w) := by
  subst hz
  have f1 := put_no p b p0 p1 hp b0 b1
  have f2 := put_no s b s0 s1 hs b0 b1
  have f3 := put_yes p b b0 b1
  have f4 := put_yes s b b0 b1
  rw [← f1] at f3
  rw [← f2] at f4
  have HZ := Lib.hid alloc_fl
  have H := Mem.begin hR
  unfold PutP
  by_cases hv : v = 0
  · subst hv
    cases x
    · rw [show ((0 : Int) != 0) = false from rfl, ← f1, ← f2]
      clear f1 f2 f3 f4 p0 p1 s0 s1 b0 b1 hp hs hR
      go_enter Tryz.func186, Tryz.ntmps186
      go_wp2_with (first | go_skip | (refine wpList_mboxA rfl _ _ rfl H _ rfl ?_; clear H; intro _ w1 _ H) | (refine gate_load _ _ rfl ?_; first | (refine wpList_mloadA rfl _ _ rfl _ rfl 2 H _ rfl (by decide +kernel) (by kernel_rfl) ?_) | (refine wpList_mload1 rfl _ _ rfl _ _ rfl 1 H _ (.int _ _) rfl rfl (by decide +kernel) ?_) | (refine wpList_mload1 rfl _ _ rfl _ _ rfl 2 H _ (.int _ _) rfl rfl (by decide +kernel) ?_) | (refine wpList_mload1 rfl _ _ rfl _ _ rfl 1 H _ (.bool _) rfl rfl (by decide +kernel) ?_)) | (refine gate_store _ _ _ rfl ?_; (first | (refine wpList_mstoreA rfl _ _ _ rfl rfl _ rfl 0 H _ _ rfl rfl (by kernel_rfl) (by kernel_rfl) (by kernel_rfl) ?_) | (refine wpList_mstore rfl _ _ _ rfl rfl _ _ rfl 2 H _ _ rfl (.int _ _) rfl (by kernel_rfl) (of_decide_eq_true (by kernel_rfl)) (by kernel_rfl) rfl ?_)); clear H; intro w1 H; simp only [List.set_cons_zero, List.set_cons_succ] at H) | (refine wpList_mnew rfl _ rfl H _ HZ.out ?_; clear H; intro _ w1 _ H) | fail)
      refine ret_mem1 rfl _ rfl 0 H _ rfl (by kernel_rfl) (by kernel_rfl) rfl ?_
      exact ⟨rfl, H.sub (List.Sublist.cons _ (List.Sublist.cons _ (List.Sublist.refl _)))⟩
    · rw [show ((0 : Int) != 0) = false from rfl, ← f1, ← f4]
      clear f1 f2 f3 f4 p0 p1 s0 s1 b0 b1 hp hs hR
      go_enter Tryz.func186, Tryz.ntmps186
      go_wp2_with (first | go_skip | (refine wpList_mboxA rfl _ _ rfl H _ rfl ?_; clear H; intro _ w1 _ H) | (refine gate_load _ _ rfl ?_; first | (refine wpList_mloadA rfl _ _ rfl _ rfl 2 H _ rfl (by decide +kernel) (by kernel_rfl) ?_) | (refine wpList_mload1 rfl _ _ rfl _ _ rfl 1 H _ (.int _ _) rfl rfl (by decide +kernel) ?_) | (refine wpList_mload1 rfl _ _ rfl _ _ rfl 2 H _ (.int _ _) rfl rfl (by decide +kernel) ?_) | (refine wpList_mload1 rfl _ _ rfl _ _ rfl 1 H _ (.bool _) rfl rfl (by decide +kernel) ?_)) | (refine gate_store _ _ _ rfl ?_; (first | (refine wpList_mstoreA rfl _ _ _ rfl rfl _ rfl 0 H _ _ rfl rfl (by kernel_rfl) (by kernel_rfl) (by kernel_rfl) ?_) | (refine wpList_mstore rfl _ _ _ rfl rfl _ _ rfl 2 H _ _ rfl (.int _ _) rfl (by kernel_rfl) (of_decide_eq_true (by kernel_rfl)) (by kernel_rfl) rfl ?_)); clear H; intro w1 H; simp only [List.set_cons_zero, List.set_cons_succ] at H) | (refine wpList_mnew rfl _ rfl H _ HZ.out ?_; clear H; intro _ w1 _ H) | fail)
      refine ret_mem1 rfl _ rfl 0 H _ rfl (by kernel_rfl) (by kernel_rfl) rfl ?_
      exact ⟨rfl, H.sub (List.Sublist.cons _ (List.Sublist.cons _ (List.Sublist.refl _)))⟩
  · have hb : (v != 0) = true := by simpa using hv
    have hd : decide (v = 0) = false := decide_eq_false hv
    clear hv
    cases x
    · rw [hb, ← f3, ← f2]
      clear f1 f2 f3 f4 p0 p1 s0 s1 b0 b1 hp hs hR
      go_enter Tryz.func186, Tryz.ntmps186
      go_wp2_with (first | go_skip | (refine wpList_mboxA rfl _ _ rfl H _ rfl ?_; clear H; intro _ w1 _ H) | (refine gate_load _ _ rfl ?_; first | (refine wpList_mloadA rfl _ _ rfl _ rfl 2 H _ rfl (by decide +kernel) (by kernel_rfl) ?_) | (refine wpList_mload1 rfl _ _ rfl _ _ rfl 1 H _ (.int _ _) rfl rfl (by decide +kernel) ?_) | (refine wpList_mload1 rfl _ _ rfl _ _ rfl 2 H _ (.int _ _) rfl rfl (by decide +kernel) ?_) | (refine wpList_mload1 rfl _ _ rfl _ _ rfl 1 H _ (.bool _) rfl rfl (by decide +kernel) ?_)) | (refine gate_store _ _ _ rfl ?_; (first | (refine wpList_mstoreA rfl _ _ _ rfl rfl _ rfl 0 H _ _ rfl rfl (by kernel_rfl) (by kernel_rfl) (by kernel_rfl) ?_) | (refine wpList_mstore rfl _ _ _ rfl rfl _ _ rfl 2 H _ _ rfl (.int _ _) rfl (by kernel_rfl) (of_decide_eq_true (by kernel_rfl)) (by kernel_rfl) rfl ?_)); clear H; intro w1 H; simp only [List.set_cons_zero, List.set_cons_succ] at H) | (refine wpList_mnew rfl _ rfl H _ HZ.out ?_; clear H; intro _ w1 _ H) | fail)
      refine ret_mem1 rfl _ rfl 0 H _ rfl (by kernel_rfl) (by kernel_rfl) rfl ?_
      exact ⟨rfl, H.sub (List.Sublist.cons _ (List.Sublist.cons _ (List.Sublist.refl _)))⟩
    · rw [hb, ← f3, ← f4]
      clear f1 f2 f3 f4 p0 p1 s0 s1 b0 b1 hp hs hR
      go_enter Tryz.func186, Tryz.ntmps186
      go_wp2_with (first | go_skip | (refine wpList_mboxA rfl _ _ rfl H _ rfl ?_; clear H; intro _ w1 _ H) | (refine gate_load _ _ rfl ?_; first | (refine wpList_mloadA rfl _ _ rfl _ rfl 2 H _ rfl (by decide +kernel) (by kernel_rfl) ?_) | (refine wpList_mload1 rfl _ _ rfl _ _ rfl 1 H _ (.int _ _) rfl rfl (by decide +kernel) ?_) | (refine wpList_mload1 rfl _ _ rfl _ _ rfl 2 H _ (.int _ _) rfl rfl (by decide +kernel) ?_) | (refine wpList_mload1 rfl _ _ rfl _ _ rfl 1 H _ (.bool _) rfl rfl (by decide +kernel) ?_)) | (refine gate_store _ _ _ rfl ?_; (first | (refine wpList_mstoreA rfl _ _ _ rfl rfl _ rfl 0 H _ _ rfl rfl (by kernel_rfl) (by kernel_rfl) (by kernel_rfl) ?_) | (refine wpList_mstore rfl _ _ _ rfl rfl _ _ rfl 2 H _ _ rfl (.int _ _) rfl (by kernel_rfl) (of_decide_eq_true (by kernel_rfl)) (by kernel_rfl) rfl ?_)); clear H; intro w1 H; simp only [List.set_cons_zero, List.set_cons_succ] at H) | (refine wpList_mnew rfl _ rfl H _ HZ.out ?_; clear H; intro _ w1 _ H) | fail)
      refine ret_mem1 rfl _ rfl 0 H _ rfl (by kernel_rfl) (by kernel_rfl) rfl ?_
      exact ⟨rfl, H.sub (List.Sublist.cons _ (List.Sublist.cons _ (List.Sublist.refl _)))⟩
set_option maxHeartbeats 1000000 in
theorem aless_ct (a m : Int) (x y : Bool) (w : World) (a0 : 0 ≤ a) (a1 : a < 256) (m0 : 0 ≤ m) (m1 : m < 256) :
    Calls Tryz.prog 197 #[.agg #[.int .u8 a, .bool x], .agg #[.int .u8 m, .bool y]] w fun e w' => e = .returned (.agg #[.int .u8 (lessV a m), .bool (x || y)]) ∧ Below w.heap.size w w' := by
  have hv : (a - m) % 256 = lessV a m := by unfold lessV; omega
  rw [← hv]
  clear hv a0 a1 m0 m1
  have HZ := Lib.hid alloc_by
  have H := Mem.start w
  go_enter Tryz.func197, Tryz.ntmps197
  go_wp2_with (first | (go_at_call 166; (with_reducible refine (of2_ct _ _ _ _ _ H 0 rfl).mono ?_); rintro e w2 ⟨rfl, hB⟩; replace H := H.next hB; clear hB) | (refine wpList_mrow rfl _ _ _ rfl H _ (by simp only [List.map_toArray, List.map_cons, List.map_nil, Act.eval]; rfl) _ _ (build_by2 a x m y) ?_; clear H; intro _ w1 H) | go_skip | (refine wpList_mboxA rfl _ _ rfl H _ rfl ?_; clear H; intro _ w1 _ H) | (refine gate_load _ _ rfl ?_; first | (refine wpList_mloadA rfl _ _ rfl _ rfl 1 H _ rfl (by decide +kernel) (by kernel_rfl) ?_) | (refine wpList_mloadA rfl _ _ rfl _ rfl 2 H _ rfl (by decide +kernel) (by kernel_rfl) ?_) | (refine wpList_mload1 rfl _ _ rfl _ _ rfl 1 H _ (.int _ _) rfl rfl (by decide +kernel) ?_) | (refine wpList_mload1 rfl _ _ rfl _ _ rfl 2 H _ (.int _ _) rfl rfl (by decide +kernel) ?_)) | (refine gate_store _ _ _ rfl ?_; (first | (refine wpList_mstoreA rfl _ _ _ rfl rfl _ rfl 1 H _ _ rfl rfl (by kernel_rfl) (by kernel_rfl) (by kernel_rfl) ?_)); clear H; intro w1 H; simp only [List.set_cons_zero, List.set_cons_succ] at H) | (refine wpList_mnew rfl _ rfl H _ HZ.out ?_; clear H; intro _ w1 _ H) | fail)
  refine ret_mem1 rfl _ rfl 1 H _ rfl (by kernel_rfl) (by kernel_rfl) rfl ?_
  exact ⟨rfl, H.toBelow⟩
end Go.Proofs.YtcgnnbgknaamdaaGreatDoor
namespace Go.Proofs.YtcgnnbgknaamdaaGreatDoor
open Go.RowKit
set_option linter.unusedSimpArgs false
set_option linter.unusedVariables false

section
variable {P : Program} {Q : Exit → Act → World → Prop} {n : Nat} {X : List Nat} {w0 w w1 : World} {l l0 l1 l2 : List (Nat × Array Value)} {o : Oper} {a : Act} {K : Act → World → Prop}
/-- One cell is written. -/
theorem wp_sstore1 (ty : TypeId) (x y : Operand) (ho : o.op = .store ty x y) (hdst : o.dst = none) (R off : Nat) (hx : a.eval x = .pointer (some ⟨R, off, none⟩)) (i : Nat) (H : Mem n X w0 w l) (cs cs' : Array Value) (hi : l[i]? = some (R, cs)) (v : Value) (hy : a.eval y = v)
    (hz : (P.info? ty).map (·.size) = some v.cells.size) (hl : off + v.cells.size ≤ cs.size) (h1 : v.cells.all (·.oneCell') = true) (hc : (splice cs.toList off v.cells.toList).toArray = cs')
    (h : ∀ w1, Mem n X w0 w1 (l.set i (R, cs')) → K a w1) : o.wp P a w K Q := by
  obtain ⟨t, hg⟩ := H.get hi
  unfold Oper.wp execOp
  simp only [ho, hx, hy, Instr.storeAt, Instr.sureAddr, Sem.run_bind, Sem.run_pure, Result.andThen_ok, run_storeVar_part w R off t ty cs v hg hz hl h1]
  have := h _ (H.setRow hi cs')
  subst hc
  simp only [Oper.upon_skip, hdst, Act.put]
  exact this
variable {s1 s2 p q k b : Nat} {D : Nat → Bool}
/-- Operations p and q read, s1 writes behind them, s2 behind that. -/
def WSw (n : Nat) (X : List Nat) (w0 : World) (s1 s2 p q : Nat) (l0 l1 l2 : List (Nat × Array Value)) (D : Nat → Bool) (_b : Nat) (w : World) : Prop :=
  (D s1 = true → D p = true ∧ D q = true) ∧ (D s2 = true → D s1 = true) ∧ Mem n X w0 w (if D s2 = true then l2 else if D s1 = true then l1 else l0)
theorem WSw.start (h : Mem n X w0 w l0) : WSw n X w0 s1 s2 p q l0 l1 l2 (fun _ => false) 0 { w with drawn := w.drawn + 1 } := ⟨fun e => (by cases e), fun e => (by cases e), by simpa using h.drew⟩
theorem WSw.base (h : WSw n X w0 s1 s2 p q l0 l1 l2 D b w) (hp : D p = false ∨ D q = false) : Mem n X w0 w l0 := by
  obtain ⟨h1, h2, hM⟩ := h
  have e1 : D s1 = false := by
    rcases hs : D s1 with _ | _
    · rfl
    · have := h1 hs
      rcases hp with hp | hp <;> simp [hp] at this
  have e2 : D s2 = false := by
    rcases hs : D s2 with _ | _
    · rfl
    · have := h2 hs
      simp [e1] at this
  simpa [e1, e2] using hM
theorem WSw.keep (h : WSw n X w0 s1 s2 p q l0 l1 l2 D b w) (h1 : s1 ≠ k) (h2 : s2 ≠ k) : WSw n X w0 s1 s2 p q l0 l1 l2 (fun j => D j || j == k) b w := by
  have e1 : (D s1 || s1 == k) = D s1 := by simp [h1]
  have e2 : (D s2 || s2 == k) = D s2 := by simp [h2]
  unfold WSw
  simp only [e1, e2]
  exact ⟨fun e => by have := h.1 e; simp [this.1, this.2], h.2.1, h.2.2⟩
theorem WSw.before (h : WSw n X w0 s1 s2 p q l0 l1 l2 D b w) (hd : D s1 = false) : Mem n X w0 w l0 := by
  obtain ⟨_, h2, hM⟩ := h
  have e2 : D s2 = false := by
    rcases hs : D s2 with _ | _
    · rfl
    · have := h2 hs
      simp [hd] at this
  simpa [hd, e2] using hM
theorem WSw.first (h : WSw n X w0 s1 s2 p q l0 l1 l2 D b w) (hd : D s1 = false) (hp : D p = true) (hq : D q = true) (hne : s2 ≠ s1) (hM : Mem n X w0 w1 l1) : WSw n X w0 s1 s2 p q l0 l1 l2 (fun j => D j || j == s1) b w1 := by
  have e2 : D s2 = false := by
    rcases hs : D s2 with _ | _
    · rfl
    · have := h.2.1 hs
      simp [hd] at this
  have f1 : (D s1 || s1 == s1) = true := by simp
  have f2 : (D s2 || s2 == s1) = false := by simp [e2, hne]
  unfold WSw
  simp only [f1, f2]
  exact ⟨fun _ => by simp [hp, hq], fun e => (by cases e), by simpa using hM⟩
theorem WSw.between (h : WSw n X w0 s1 s2 p q l0 l1 l2 D b w) (hd : D s1 = true) (hs : D s2 = false) : Mem n X w0 w l1 := by
  have := h.2.2
  simpa [hd, hs] using this
theorem WSw.second (h : WSw n X w0 s1 s2 p q l0 l1 l2 D b w) (hd : D s1 = true) (hM : Mem n X w0 w1 l2) : WSw n X w0 s1 s2 p q l0 l1 l2 (fun j => D j || j == s2) b w1 := by
  have f1 : (D s1 || s1 == s2) = true := by simp [hd]
  have f2 : (D s2 || s2 == s2) = true := by simp
  unfold WSw
  simp only [f1, f2]
  exact ⟨fun _ => by have := h.1 hd; simp [this.1, this.2], fun _ => trivial, by simpa using hM⟩
theorem WSw.done (h : WSw n X w0 s1 s2 p q l0 l1 l2 D b w) (hs : D s2 = true) : Mem n X w0 w l2 := by
  have := h.2.2
  simpa [hs] using this
end
end Go.Proofs.YtcgnnbgknaamdaaGreatDoor
namespace Go.Proofs.YtcgnnbgknaamdaaGreatDoor
open Go.RowKit

def Wk.uA (s : Wk) (v : Int) (b : Bool) : Wk := { s with av := v, ab := b }
theorem st_A (s : Wk) (v : Int) (b : Bool) : (splice (wkC s).toList 0 (Value.cells (.agg #[.int .u8 v, .bool b])).toList).toArray = wkC (s.uA v b) := rfl
def Wk.uX (s : Wk) (v : Int) (b : Bool) : Wk := { s with xv := v, xb := b }
theorem st_X (s : Wk) (v : Int) (b : Bool) : (splice (wkC s).toList 2 (Value.cells (.agg #[.int .u8 v, .bool b])).toList).toArray = wkC (s.uX v b) := rfl
def Wk.uY (s : Wk) (v : Int) (b : Bool) : Wk := { s with yv := v, yb := b }
theorem st_Y (s : Wk) (v : Int) (b : Bool) : (splice (wkC s).toList 4 (Value.cells (.agg #[.int .u8 v, .bool b])).toList).toArray = wkC (s.uY v b) := rfl
def Wk.uS (s : Wk) (v : Int) (b : Bool) : Wk := { s with sv := v, sb := b }
theorem st_S (s : Wk) (v : Int) (b : Bool) : (splice (wkC s).toList 6 (Value.cells (.agg #[.int .u8 v, .bool b])).toList).toArray = wkC (s.uS v b) := rfl
def Wk.uSV (s : Wk) (v : Int) : Wk := { s with sv := v }
theorem st_SV (s : Wk) (v : Int) : (splice (wkC s).toList 6 (Value.cells (.int .u8 v)).toList).toArray = wkC (s.uSV v) := rfl
def Wk.uF (s : Wk) (v q : Int) : Wk := { s with p := v, ps := q }
theorem st_F (s : Wk) (v q : Int) : (splice (wkC s).toList 8 (Value.cells (.agg #[.int .u8 v, .int .u8 q])).toList).toArray = wkC (s.uF v q) := rfl
def Wk.uPC (s : Wk) (v : Int) : Wk := { s with pc := v }
theorem st_PC (s : Wk) (v : Int) : (splice (wkC s).toList 10 (Value.cells (.int .u16 v)).toList).toArray = wkC (s.uPC v) := rfl
def Wk.uPCS (s : Wk) (b : Bool) : Wk := { s with pcs := b }
theorem st_PCS (s : Wk) (b : Bool) : (splice (wkC s).toList 11 (Value.cells (.bool b)).toList).toArray = wkC (s.uPCS b) := rfl
def Wk.uOp (s : Wk) (v : Int) : Wk := { s with op := v }
theorem st_Op (s : Wk) (v : Int) : (splice (wkC s).toList 12 (Value.cells (.int .u8 v)).toList).toArray = wkC (s.uOp v) := rfl
def Wk.uT (s : Wk) (v : Int) : Wk := { s with t := v }
theorem st_T (s : Wk) (v : Int) : (splice (wkC s).toList 13 (Value.cells (.int .i64 v)).toList).toArray = wkC (s.uT v) := rfl
def Wk.uAd (s : Wk) (v : Int) : Wk := { s with ad := v }
theorem st_Ad (s : Wk) (v : Int) : (splice (wkC s).toList 14 (Value.cells (.int .u16 v)).toList).toArray = wkC (s.uAd v) := rfl
def Wk.uAdS (s : Wk) (b : Bool) : Wk := { s with ads := b }
theorem st_AdS (s : Wk) (b : Bool) : (splice (wkC s).toList 15 (Value.cells (.bool b)).toList).toArray = wkC (s.uAdS b) := rfl
def Wk.uD (s : Wk) (v : Int) (b : Bool) : Wk := { s with dv := v, db := b }
theorem st_D (s : Wk) (v : Int) (b : Bool) : (splice (wkC s).toList 16 (Value.cells (.agg #[.int .u8 v, .bool b])).toList).toArray = wkC (s.uD v b) := rfl
def Wk.uCr (s : Wk) (b : Bool) : Wk := { s with cr := b }
theorem st_Cr (s : Wk) (b : Bool) : (splice (wkC s).toList 18 (Value.cells (.bool b)).toList).toArray = wkC (s.uCr b) := rfl
def Wk.uIntr (s : Wk) (v : Int) : Wk := { s with intr := v }
theorem st_Intr (s : Wk) (v : Int) : (splice (wkC s).toList 19 (Value.cells (.int .i64 v)).toList).toArray = wkC (s.uIntr v) := rfl
def Wk.uNmi (s : Wk) (b : Bool) : Wk := { s with nmi := b }
def Wk.uGot (s : Wk) (b : Bool) : Wk := { s with got := b }
theorem st_Got (s : Wk) (b : Bool) : (splice (wkC s).toList 21 (Value.cells (.bool b)).toList).toArray = wkC (s.uGot b) := rfl
def Wk.uPend (s : Wk) (v : Int) : Wk := { s with pend := v }
def Wk.uCtl (s : Wk) (b : Bool) : Wk := { s with ctl := b }
theorem st_Ctl (s : Wk) (b : Bool) : (splice (wkC s).toList 23 (Value.cells (.bool b)).toList).toArray = wkC (s.uCtl b) := rfl
def Wk.uJam (s : Wk) (b : Bool) : Wk := { s with jam := b }
theorem st_Jam (s : Wk) (b : Bool) : (splice (wkC s).toList 24 (Value.cells (.bool b)).toList).toArray = wkC (s.uJam b) := rfl
def Wk.uNx (s : Wk) (v : Int) : Wk := { s with nx := v }
theorem st_Nx (s : Wk) (v : Int) : (splice (wkC s).toList 33 (Value.cells (.int .i64 v)).toList).toArray = wkC (s.uNx v) := rfl
def Wk.uIs (s : Wk) (nm : ByteArray) (md us cy : Int) (xr gd : Bool) : Wk := { s with nm := nm, md := md, us := us, cy := cy, xr := xr, gd := gd }
theorem st_Is (s : Wk) (nm : ByteArray) (md us cy : Int) (xr gd : Bool) : (splice (wkC s).toList 25 (Value.cells (.agg (opC nm md us cy xr gd))).toList).toArray = wkC (s.uIs nm md us cy xr gd) := rfl
def Bs.uAd (b : Bs) (n : Int) : Bs := { b with ad := n }
def Bs.uWr (b : Bs) (z : Bool) : Bs := { b with wr := z }
def Bs.uV (b : Bs) (v : Int) (z : Bool) : Bs := { b with v := v, vb := z }
def Bs.uSc (b : Bs) (z : Bool) : Bs := { b with sc := z }
theorem sb_Ad (b : Bs) (n : Int) : (splice (bsC b).toList 0 (Value.cells (.int .u16 n)).toList).toArray = bsC (b.uAd n) := rfl
theorem sb_Wr (b : Bs) (z : Bool) : (splice (bsC b).toList 1 (Value.cells (.bool z)).toList).toArray = bsC (b.uWr z) := rfl
theorem sb_V (b : Bs) (v : Int) (z : Bool) : (splice (bsC b).toList 2 (Value.cells (.agg #[.int .u8 v, .bool z])).toList).toArray = bsC (b.uV v z) := rfl
theorem sb_Sc (b : Bs) (z : Bool) : (splice (bsC b).toList 4 (Value.cells (.bool z)).toList).toArray = bsC (b.uSc z) := rfl
theorem part2 {cs : Array Value} {off : Nat} {x y : Value} (h0 : cs[off]? = some x) (h1 : cs[off + 1]? = some y) : ∀ j v, (#[x, y] : Array Value)[j]? = some v → cs[off + j]? = some v
  | 0, v, h => by rw [← h]; exact h0
  | 1, v, h => by rw [← h]; exact h1
  | j + 2, v, h => by
    rw [Array.getElem?_eq_none (by simp)] at h
    cases h
theorem wk_cpu (s : Wk) : ∀ j v, (cpC s.toCp)[j]? = some v → (wkC s)[0 + j]? = some v := by
  intro j v h
  have e : (wkC s).toList = (cpC s.toCp).toList ++ [.string s.nm, .int .i64 s.md, .int .i64 s.us, .int .i64 s.cy, .bool s.xr, .bool s.gd, .int .u8 s.v, .bool s.vb, .int .i64 s.nx] := rfl
  have hj : j < 25 := by
    have := (Array.getElem?_eq_some_iff.1 h).1
    exact this
  rw [Nat.zero_add, ← Array.getElem?_toList, e, List.getElem?_append_left (by show j < 25; exact hj), Array.getElem?_toList]
  exact h
theorem wk_is (s : Wk) : ∀ j v, (opC s.nm s.md s.us s.cy s.xr s.gd)[j]? = some v → (wkC s)[25 + j]? = some v
  | 0, v, h => h
  | 1, v, h => h
  | 2, v, h => h
  | 3, v, h => h
  | 4, v, h => h
  | 5, v, h => h
  | j + 6, v, h => by
    rw [Array.getElem?_eq_none (by simp [opC])] at h
    cases h
section
variable {n : Nat} {X : List Nat} {w0 w : World} {l : List (Nat × Array Value)} {x : Nat × Array Value}
theorem Mem.asW {R : Nat} {S S' : Wk} (H : Mem n X w0 w [(R, wkC S)]) (e : S = S') : Mem n X w0 w [(R, wkC S')] := e ▸ H
theorem Mem.only (H : Mem n X w0 w l) {i : Nat} (hi : l[i]? = some x) : Mem n X w0 w [x] := H.sub (List.singleton_sublist.2 (List.mem_of_getElem? hi))
end
/-- A callee that turns the processor at work. -/
abbrev CM (f : FuncId) (s S : Wk) : Prop := ∀ (R : Nat) (T : TypeId) (w : World), w.heap[R]? = some (.cells (wkC s) T) → Calls Tryz.prog f #[.pointer (some ⟨R, 0, none⟩)] w fun e w' => e = .returned (.tuple #[]) ∧ Mem w.heap.size [R] w w' [(R, wkC S)]
/-- The same, handed a byte. -/
abbrev CB (f : FuncId) (s S : Wk) (v : Int) (b : Bool) : Prop := ∀ (R : Nat) (T : TypeId) (w : World), w.heap[R]? = some (.cells (wkC s) T) → Calls Tryz.prog f #[.pointer (some ⟨R, 0, none⟩), .agg #[.int .u8 v, .bool b]] w fun e w' => e = .returned (.tuple #[]) ∧ Mem w.heap.size [R] w w' [(R, wkC S)]
/-- The same, and a byte comes back. -/
abbrev CR (f : FuncId) (s : Wk) (v : Int) (b : Bool) (r : Wk × Int × Bool) : Prop := ∀ (R : Nat) (T : TypeId) (w : World), w.heap[R]? = some (.cells (wkC s) T) → Calls Tryz.prog f #[.pointer (some ⟨R, 0, none⟩), .agg #[.int .u8 v, .bool b]] w fun e w' => e = .returned (.agg #[.int .u8 r.2.1, .bool r.2.2]) ∧ Mem w.heap.size [R] w w' [(R, wkC r.1)]
/-- What is asked for comes back. -/
abbrev CS (f : FuncId) (s : Wk) (r : Wk × Bs) : Prop := ∀ (R : Nat) (T : TypeId) (w : World), w.heap[R]? = some (.cells (wkC s) T) → Calls Tryz.prog f #[.pointer (some ⟨R, 0, none⟩)] w fun e w' => e = .returned (.agg (bsC r.2)) ∧ Mem w.heap.size [R] w w' [(R, wkC r.1)]
/-- What a processor at work, handed over whole, asks for. -/
abbrev CA (f : FuncId) (s : Wk) (b : Bs) : Prop := ∀ (w : World), Calls Tryz.prog f #[.agg (wkC s)] w fun e w' => e = .returned (.agg (bsC b)) ∧ Below w.heap.size w w'

theorem fall {P : Program} {fn : Func} {Rr : Ending → World → Prop} {a : Act} {w : World} (hr : fn.results = #[]) (hd : a.defers = []) (h : Rr (.returned (.tuple #[])) w) : bodyPost P fn Rr .normal a w :=
  bodyPost_end (by simp [results, hr]) hd h
theorem fallr {P : Program} {fn : Func} {Rr : Ending → World → Prop} {a : Act} {w : World} (hr : fn.results = #[]) (hd : a.defers = []) (h : Rr (.returned (.tuple #[])) w) : bodyPost P fn Rr .ret a w :=
  bodyPost_ret (by simp [results, hr]) hd h

def bs0 : Bs := ⟨0, false, 0, false, false⟩
theorem alloc_bus (w : World) : (Instr.alloc 46 true (.tuple #[])).run Tryz.prog w = .ok (.pointer (some ⟨w.heap.size, 0, none⟩)) (w.alloc (.cells (bsC bs0) 46)) := by kernel_rfl
theorem alloc_cpu (w : World) : (Instr.alloc 28 true (.tuple #[])).run Tryz.prog w = .ok (.pointer (some ⟨w.heap.size, 0, none⟩)) (w.alloc (.cells (cpC ⟨0, false, 0, false, 0, false, 0, false, 0, 0, 0, false, 0, 0, 0, false, 0, false, false, 0, false, false, 0, false, false⟩) 28)) := by kernel_rfl
def cp0 : Cp := ⟨0, false, 0, false, 0, false, 0, false, 0, 0, 0, false, 0, 0, 0, false, 0, false, false, 0, false, false, 0, false, false⟩
theorem alloc_wk (w : World) : (Instr.alloc 71 true (.tuple #[])).run Tryz.prog w = .ok (.pointer (some ⟨w.heap.size, 0, none⟩)) (w.alloc (.cells (wkC (emptyW cp0 0 false)) 71)) := by kernel_rfl
theorem alloc_step (w : World) : (Instr.alloc 75 true (.tuple #[])).run Tryz.prog w = .ok (.pointer (some ⟨w.heap.size, 0, none⟩)) (w.alloc (.cells #[.nilFunc, .nilFunc] 75)) := by kernel_rfl
end Go.Proofs.YtcgnnbgknaamdaaGreatDoor
