/-
  Several texts in one: what is read and written by the functions on the way to the statements. Conditions stand in each theorem.
-/
import Derived.Test.YtopmlmpadkdhjaaGreatDoorZ04
import Derived.Test.YtopmlmpadkdhjaaGreatDoorZ05
namespace Go.Proofs.YtopmlmpadkdhjaaGreatDoor
open Go.RowKit
set_option linter.unusedSimpArgs false
set_option linter.unusedVariables false
set_option maxRecDepth 20000

def crossV (m u : Int) : Bool := (m == 11) || ((u == 1) && ((m == 7) || (m == 8) || (m == 10)))
def goodW (op : Int) (rare nop : Bool) : Bool := !rare && (!nop || (op == 234)) && (op != 235)
def goodV (op : Int) : Bool := goodW op (isIn ⟨#[65, 76, 82, 32, 65, 78, 67, 32, 65, 78, 69, 32, 65, 82, 82, 32, 68, 67, 80, 32, 73, 83, 67, 32, 74, 65, 77, 32, 76, 65, 83, 32, 76, 65, 88, 32, 76, 88, 65, 32, 82, 76, 65, 32, 82, 82, 65, 32, 83, 65, 88, 32, 83, 66, 88, 32, 83, 72, 65, 32, 83, 72, 88, 32, 83, 72, 89, 32, 83, 76, 79, 32, 83, 82, 69, 32, 84, 65, 83, 32]⟩ (nameV op)) ((nameV op).toList == [78, 79, 80])
def useV (op : Int) : Int := useN (nameV op) (modeV op)
/-- An instruction's six cells. -/
def opC (nm : ByteArray) (m u c : Int) (x g : Bool) : Array Value := #[.string nm, .int .i64 m, .int .i64 u, .int .i64 c, .bool x, .bool g]
def decC (op : Int) : Array Value := opC (nameV op) (modeV op) (useV op) (cycV (modeV op) (useV op)) (crossV (modeV op) (useV op)) (goodV op)
theorem alloc_op (w : World) : (Instr.alloc 46 true (.tuple #[])).run Tryz.prog w = .ok (.pointer (some ⟨w.heap.size, 0, none⟩)) (w.alloc (.cells (opC ⟨#[]⟩ 0 0 0 false false) 46)) := by kernel_rfl
set_option maxHeartbeats 8000000 in
theorem rdec_ct (op : Int) (w : World) (o0 : 0 ≤ op) (o1 : op < 256) :
    Calls Tryz.prog 15 #[.int .u8 op] w fun e w' => e = .returned (.agg (decC op)) ∧ Below w.heap.size w w' := by
  obtain ⟨m0, m1⟩ := modeV_le op o0 o1
  obtain ⟨u0, u1⟩ : 0 ≤ useV op ∧ useV op ≤ 3 := useW_le _ _ _
  have K1 := fun wr => rname_ct op wr o0 o1
  have K2 := fun wr => rmode_ct op wr o0 o1
  have K3 : ∀ wr : World, Calls Tryz.prog 43 #[.string (nameV op), .int .i64 (modeV op)] wr fun e w' => e = .returned (.int .i64 (useV op)) ∧ Below wr.heap.size wr w' := fun wr => ruse_ct (nameV op) (modeV op) wr m0 m1
  have K4 := fun wr => rone_ct ⟨#[65, 76, 82, 32, 65, 78, 67, 32, 65, 78, 69, 32, 65, 82, 82, 32, 68, 67, 80, 32, 73, 83, 67, 32, 74, 65, 77, 32, 76, 65, 83, 32, 76, 65, 88, 32, 76, 88, 65, 32, 82, 76, 65, 32, 82, 82, 65, 32, 83, 65, 88, 32, 83, 66, 88, 32, 83, 72, 65, 32, 83, 72, 88, 32, 83, 72, 89, 32, 83, 76, 79, 32, 83, 82, 69, 32, 84, 65, 83, 32]⟩ (nameV op) wr (by decide)
  have K5 := fun wr => rcyc_ct (modeV op) (useV op) wr m0 m1 u0 u1
  unfold decC goodV
  generalize useV op = u at *
  generalize modeV op = m at *
  generalize nameV op = nm at *
  generalize cycV m u = c at *
  generalize isIn ⟨#[65, 76, 82, 32, 65, 78, 67, 32, 65, 78, 69, 32, 65, 82, 82, 32, 68, 67, 80, 32, 73, 83, 67, 32, 74, 65, 77, 32, 76, 65, 83, 32, 76, 65, 88, 32, 76, 88, 65, 32, 82, 76, 65, 32, 82, 82, 65, 32, 83, 65, 88, 32, 83, 66, 88, 32, 83, 72, 65, 32, 83, 72, 88, 32, 83, 72, 89, 32, 83, 76, 79, 32, 83, 82, 69, 32, 84, 65, 83, 32]⟩ nm = rare at *
  have Q1 := Lib.hid K1
  have Q2 := Lib.hid K2
  have Q3 := Lib.hid K3
  have Q4 := Lib.hid K4
  have Q5 := Lib.hid K5
  clear K1 K2 K3 K4 K5
  have HZ := Lib.hid alloc_op
  have H := Mem.start w
  have hc : (m == 11) = true ∨ ((m == 11) = false ∧ (u == 1) = false) ∨ ((m == 11) = false ∧ (u == 1) = true ∧ (m == 7) = true) ∨ ((m == 11) = false ∧ (u == 1) = true ∧ (m == 7) = false ∧ (m == 8) = true) ∨ ((m == 11) = false ∧ (u == 1) = true ∧ (m == 7) = false ∧ (m == 8) = false ∧ (m == 10) = true) ∨ ((m == 11) = false ∧ (u == 1) = true ∧ (m == 7) = false ∧ (m == 8) = false ∧ (m == 10) = false) := by
    cases (m == 11) <;> cases (u == 1) <;> cases (m == 7) <;> cases (m == 8) <;> cases (m == 10) <;> simp
  have hg : rare = true ∨ (rare = false ∧ (nm.toList == [78, 79, 80]) = false) ∨ (rare = false ∧ (nm.toList == [78, 79, 80]) = true ∧ (op == 234) = true) ∨ (rare = false ∧ (nm.toList == [78, 79, 80]) = true ∧ (op == 234) = false) := by
    cases rare <;> cases (nm.toList == [78, 79, 80]) <;> cases (op == 234) <;> simp
  rcases hc with h1 | ⟨h1, h2⟩ | ⟨h1, h2, h3⟩ | ⟨h1, h2, h3, h4⟩ | ⟨h1, h2, h3, h4, h5⟩ | ⟨h1, h2, h3, h4, h5⟩
  · rw [show crossV m u = true by unfold crossV; rw [h1]; rfl]
    rcases hg with rfl | ⟨rfl, g2⟩ | ⟨rfl, g2, g3⟩ | ⟨rfl, g2, g3⟩
    · rw [show goodW op true (nm.toList == [78, 79, 80]) = false by unfold goodW; simp]
      go_enter Tryz.func15, Tryz.ntmps15
      go_wp2_with (first | (go_at_call 41; (with_reducible refine (Q1.out _).mono ?_); rintro e w2 ⟨rfl, hB⟩; replace H := H.next hB; clear hB) | (go_at_call 42; (with_reducible refine (Q2.out _).mono ?_); rintro e w2 ⟨rfl, hB⟩; replace H := H.next hB; clear hB) | (go_at_call 43; (with_reducible refine (Q3.out _).mono ?_); rintro e w2 ⟨rfl, hB⟩; replace H := H.next hB; clear hB) | (go_at_call 44; (with_reducible refine (Q4.out _).mono ?_); rintro e w2 ⟨rfl, hB⟩; replace H := H.next hB; clear hB) | (go_at_call 45; (with_reducible refine (Q5.out _).mono ?_); rintro e w2 ⟨rfl, hB⟩; replace H := H.next hB; clear hB) | (refine wpList_mnew rfl _ rfl H _ HZ.out ?_; clear H; intro R1 w1 _ H) | go_skip | (refine gate_store _ _ _ rfl ?_; (first | (refine wpList_mstoreA rfl _ _ _ rfl rfl _ rfl 0 H _ _ rfl rfl (by kernel_rfl) (by kernel_rfl) (by kernel_rfl) ?_)); clear H; intro w1 H; simp only [List.set_cons_zero, List.set_cons_succ] at H) | fail)
      refine ret_mem1 rfl _ rfl 0 H _ rfl (by kernel_rfl) (by kernel_rfl) rfl ?_
      exact ⟨rfl, H.toBelow⟩
    · rw [show goodW op false (nm.toList == [78, 79, 80]) = (op != 235) by unfold goodW; rw [g2]; simp]
      go_enter Tryz.func15, Tryz.ntmps15
      go_wp2_with (first | (go_at_call 41; (with_reducible refine (Q1.out _).mono ?_); rintro e w2 ⟨rfl, hB⟩; replace H := H.next hB; clear hB) | (go_at_call 42; (with_reducible refine (Q2.out _).mono ?_); rintro e w2 ⟨rfl, hB⟩; replace H := H.next hB; clear hB) | (go_at_call 43; (with_reducible refine (Q3.out _).mono ?_); rintro e w2 ⟨rfl, hB⟩; replace H := H.next hB; clear hB) | (go_at_call 44; (with_reducible refine (Q4.out _).mono ?_); rintro e w2 ⟨rfl, hB⟩; replace H := H.next hB; clear hB) | (go_at_call 45; (with_reducible refine (Q5.out _).mono ?_); rintro e w2 ⟨rfl, hB⟩; replace H := H.next hB; clear hB) | (refine wpList_mnew rfl _ rfl H _ HZ.out ?_; clear H; intro R1 w1 _ H) | go_skip | (refine gate_store _ _ _ rfl ?_; (first | (refine wpList_mstoreA rfl _ _ _ rfl rfl _ rfl 0 H _ _ rfl rfl (by kernel_rfl) (by kernel_rfl) (by kernel_rfl) ?_)); clear H; intro w1 H; simp only [List.set_cons_zero, List.set_cons_succ] at H) | fail)
      refine ret_mem1 rfl _ rfl 0 H _ rfl (by kernel_rfl) (by kernel_rfl) rfl ?_
      exact ⟨rfl, H.toBelow⟩
    · rw [show goodW op false (nm.toList == [78, 79, 80]) = (op != 235) by unfold goodW; rw [g2, g3]; rfl]
      go_enter Tryz.func15, Tryz.ntmps15
      go_wp2_with (first | (go_at_call 41; (with_reducible refine (Q1.out _).mono ?_); rintro e w2 ⟨rfl, hB⟩; replace H := H.next hB; clear hB) | (go_at_call 42; (with_reducible refine (Q2.out _).mono ?_); rintro e w2 ⟨rfl, hB⟩; replace H := H.next hB; clear hB) | (go_at_call 43; (with_reducible refine (Q3.out _).mono ?_); rintro e w2 ⟨rfl, hB⟩; replace H := H.next hB; clear hB) | (go_at_call 44; (with_reducible refine (Q4.out _).mono ?_); rintro e w2 ⟨rfl, hB⟩; replace H := H.next hB; clear hB) | (go_at_call 45; (with_reducible refine (Q5.out _).mono ?_); rintro e w2 ⟨rfl, hB⟩; replace H := H.next hB; clear hB) | (refine wpList_mnew rfl _ rfl H _ HZ.out ?_; clear H; intro R1 w1 _ H) | go_skip | (refine gate_store _ _ _ rfl ?_; (first | (refine wpList_mstoreA rfl _ _ _ rfl rfl _ rfl 0 H _ _ rfl rfl (by kernel_rfl) (by kernel_rfl) (by kernel_rfl) ?_)); clear H; intro w1 H; simp only [List.set_cons_zero, List.set_cons_succ] at H) | fail)
      refine ret_mem1 rfl _ rfl 0 H _ rfl (by kernel_rfl) (by kernel_rfl) rfl ?_
      exact ⟨rfl, H.toBelow⟩
    · rw [show goodW op false (nm.toList == [78, 79, 80]) = false by unfold goodW; rw [g2, g3]; rfl]
      go_enter Tryz.func15, Tryz.ntmps15
      go_wp2_with (first | (go_at_call 41; (with_reducible refine (Q1.out _).mono ?_); rintro e w2 ⟨rfl, hB⟩; replace H := H.next hB; clear hB) | (go_at_call 42; (with_reducible refine (Q2.out _).mono ?_); rintro e w2 ⟨rfl, hB⟩; replace H := H.next hB; clear hB) | (go_at_call 43; (with_reducible refine (Q3.out _).mono ?_); rintro e w2 ⟨rfl, hB⟩; replace H := H.next hB; clear hB) | (go_at_call 44; (with_reducible refine (Q4.out _).mono ?_); rintro e w2 ⟨rfl, hB⟩; replace H := H.next hB; clear hB) | (go_at_call 45; (with_reducible refine (Q5.out _).mono ?_); rintro e w2 ⟨rfl, hB⟩; replace H := H.next hB; clear hB) | (refine wpList_mnew rfl _ rfl H _ HZ.out ?_; clear H; intro R1 w1 _ H) | go_skip | (refine gate_store _ _ _ rfl ?_; (first | (refine wpList_mstoreA rfl _ _ _ rfl rfl _ rfl 0 H _ _ rfl rfl (by kernel_rfl) (by kernel_rfl) (by kernel_rfl) ?_)); clear H; intro w1 H; simp only [List.set_cons_zero, List.set_cons_succ] at H) | fail)
      refine ret_mem1 rfl _ rfl 0 H _ rfl (by kernel_rfl) (by kernel_rfl) rfl ?_
      exact ⟨rfl, H.toBelow⟩
  · rw [show crossV m u = false by unfold crossV; rw [h1, h2]; rfl]
    rcases hg with rfl | ⟨rfl, g2⟩ | ⟨rfl, g2, g3⟩ | ⟨rfl, g2, g3⟩
    · rw [show goodW op true (nm.toList == [78, 79, 80]) = false by unfold goodW; simp]
      go_enter Tryz.func15, Tryz.ntmps15
      go_wp2_with (first | (go_at_call 41; (with_reducible refine (Q1.out _).mono ?_); rintro e w2 ⟨rfl, hB⟩; replace H := H.next hB; clear hB) | (go_at_call 42; (with_reducible refine (Q2.out _).mono ?_); rintro e w2 ⟨rfl, hB⟩; replace H := H.next hB; clear hB) | (go_at_call 43; (with_reducible refine (Q3.out _).mono ?_); rintro e w2 ⟨rfl, hB⟩; replace H := H.next hB; clear hB) | (go_at_call 44; (with_reducible refine (Q4.out _).mono ?_); rintro e w2 ⟨rfl, hB⟩; replace H := H.next hB; clear hB) | (go_at_call 45; (with_reducible refine (Q5.out _).mono ?_); rintro e w2 ⟨rfl, hB⟩; replace H := H.next hB; clear hB) | (refine wpList_mnew rfl _ rfl H _ HZ.out ?_; clear H; intro R1 w1 _ H) | go_skip | (refine gate_store _ _ _ rfl ?_; (first | (refine wpList_mstoreA rfl _ _ _ rfl rfl _ rfl 0 H _ _ rfl rfl (by kernel_rfl) (by kernel_rfl) (by kernel_rfl) ?_)); clear H; intro w1 H; simp only [List.set_cons_zero, List.set_cons_succ] at H) | fail)
      refine ret_mem1 rfl _ rfl 0 H _ rfl (by kernel_rfl) (by kernel_rfl) rfl ?_
      exact ⟨rfl, H.toBelow⟩
    · rw [show goodW op false (nm.toList == [78, 79, 80]) = (op != 235) by unfold goodW; rw [g2]; simp]
      go_enter Tryz.func15, Tryz.ntmps15
      go_wp2_with (first | (go_at_call 41; (with_reducible refine (Q1.out _).mono ?_); rintro e w2 ⟨rfl, hB⟩; replace H := H.next hB; clear hB) | (go_at_call 42; (with_reducible refine (Q2.out _).mono ?_); rintro e w2 ⟨rfl, hB⟩; replace H := H.next hB; clear hB) | (go_at_call 43; (with_reducible refine (Q3.out _).mono ?_); rintro e w2 ⟨rfl, hB⟩; replace H := H.next hB; clear hB) | (go_at_call 44; (with_reducible refine (Q4.out _).mono ?_); rintro e w2 ⟨rfl, hB⟩; replace H := H.next hB; clear hB) | (go_at_call 45; (with_reducible refine (Q5.out _).mono ?_); rintro e w2 ⟨rfl, hB⟩; replace H := H.next hB; clear hB) | (refine wpList_mnew rfl _ rfl H _ HZ.out ?_; clear H; intro R1 w1 _ H) | go_skip | (refine gate_store _ _ _ rfl ?_; (first | (refine wpList_mstoreA rfl _ _ _ rfl rfl _ rfl 0 H _ _ rfl rfl (by kernel_rfl) (by kernel_rfl) (by kernel_rfl) ?_)); clear H; intro w1 H; simp only [List.set_cons_zero, List.set_cons_succ] at H) | fail)
      refine ret_mem1 rfl _ rfl 0 H _ rfl (by kernel_rfl) (by kernel_rfl) rfl ?_
      exact ⟨rfl, H.toBelow⟩
    · rw [show goodW op false (nm.toList == [78, 79, 80]) = (op != 235) by unfold goodW; rw [g2, g3]; rfl]
      go_enter Tryz.func15, Tryz.ntmps15
      go_wp2_with (first | (go_at_call 41; (with_reducible refine (Q1.out _).mono ?_); rintro e w2 ⟨rfl, hB⟩; replace H := H.next hB; clear hB) | (go_at_call 42; (with_reducible refine (Q2.out _).mono ?_); rintro e w2 ⟨rfl, hB⟩; replace H := H.next hB; clear hB) | (go_at_call 43; (with_reducible refine (Q3.out _).mono ?_); rintro e w2 ⟨rfl, hB⟩; replace H := H.next hB; clear hB) | (go_at_call 44; (with_reducible refine (Q4.out _).mono ?_); rintro e w2 ⟨rfl, hB⟩; replace H := H.next hB; clear hB) | (go_at_call 45; (with_reducible refine (Q5.out _).mono ?_); rintro e w2 ⟨rfl, hB⟩; replace H := H.next hB; clear hB) | (refine wpList_mnew rfl _ rfl H _ HZ.out ?_; clear H; intro R1 w1 _ H) | go_skip | (refine gate_store _ _ _ rfl ?_; (first | (refine wpList_mstoreA rfl _ _ _ rfl rfl _ rfl 0 H _ _ rfl rfl (by kernel_rfl) (by kernel_rfl) (by kernel_rfl) ?_)); clear H; intro w1 H; simp only [List.set_cons_zero, List.set_cons_succ] at H) | fail)
      refine ret_mem1 rfl _ rfl 0 H _ rfl (by kernel_rfl) (by kernel_rfl) rfl ?_
      exact ⟨rfl, H.toBelow⟩
    · rw [show goodW op false (nm.toList == [78, 79, 80]) = false by unfold goodW; rw [g2, g3]; rfl]
      go_enter Tryz.func15, Tryz.ntmps15
      go_wp2_with (first | (go_at_call 41; (with_reducible refine (Q1.out _).mono ?_); rintro e w2 ⟨rfl, hB⟩; replace H := H.next hB; clear hB) | (go_at_call 42; (with_reducible refine (Q2.out _).mono ?_); rintro e w2 ⟨rfl, hB⟩; replace H := H.next hB; clear hB) | (go_at_call 43; (with_reducible refine (Q3.out _).mono ?_); rintro e w2 ⟨rfl, hB⟩; replace H := H.next hB; clear hB) | (go_at_call 44; (with_reducible refine (Q4.out _).mono ?_); rintro e w2 ⟨rfl, hB⟩; replace H := H.next hB; clear hB) | (go_at_call 45; (with_reducible refine (Q5.out _).mono ?_); rintro e w2 ⟨rfl, hB⟩; replace H := H.next hB; clear hB) | (refine wpList_mnew rfl _ rfl H _ HZ.out ?_; clear H; intro R1 w1 _ H) | go_skip | (refine gate_store _ _ _ rfl ?_; (first | (refine wpList_mstoreA rfl _ _ _ rfl rfl _ rfl 0 H _ _ rfl rfl (by kernel_rfl) (by kernel_rfl) (by kernel_rfl) ?_)); clear H; intro w1 H; simp only [List.set_cons_zero, List.set_cons_succ] at H) | fail)
      refine ret_mem1 rfl _ rfl 0 H _ rfl (by kernel_rfl) (by kernel_rfl) rfl ?_
      exact ⟨rfl, H.toBelow⟩
  · rw [show crossV m u = true by unfold crossV; rw [h1, h2, h3]; rfl]
    rcases hg with rfl | ⟨rfl, g2⟩ | ⟨rfl, g2, g3⟩ | ⟨rfl, g2, g3⟩
    · rw [show goodW op true (nm.toList == [78, 79, 80]) = false by unfold goodW; simp]
      go_enter Tryz.func15, Tryz.ntmps15
      go_wp2_with (first | (go_at_call 41; (with_reducible refine (Q1.out _).mono ?_); rintro e w2 ⟨rfl, hB⟩; replace H := H.next hB; clear hB) | (go_at_call 42; (with_reducible refine (Q2.out _).mono ?_); rintro e w2 ⟨rfl, hB⟩; replace H := H.next hB; clear hB) | (go_at_call 43; (with_reducible refine (Q3.out _).mono ?_); rintro e w2 ⟨rfl, hB⟩; replace H := H.next hB; clear hB) | (go_at_call 44; (with_reducible refine (Q4.out _).mono ?_); rintro e w2 ⟨rfl, hB⟩; replace H := H.next hB; clear hB) | (go_at_call 45; (with_reducible refine (Q5.out _).mono ?_); rintro e w2 ⟨rfl, hB⟩; replace H := H.next hB; clear hB) | (refine wpList_mnew rfl _ rfl H _ HZ.out ?_; clear H; intro R1 w1 _ H) | go_skip | (refine gate_store _ _ _ rfl ?_; (first | (refine wpList_mstoreA rfl _ _ _ rfl rfl _ rfl 0 H _ _ rfl rfl (by kernel_rfl) (by kernel_rfl) (by kernel_rfl) ?_)); clear H; intro w1 H; simp only [List.set_cons_zero, List.set_cons_succ] at H) | fail)
      refine ret_mem1 rfl _ rfl 0 H _ rfl (by kernel_rfl) (by kernel_rfl) rfl ?_
      exact ⟨rfl, H.toBelow⟩
    · rw [show goodW op false (nm.toList == [78, 79, 80]) = (op != 235) by unfold goodW; rw [g2]; simp]
      go_enter Tryz.func15, Tryz.ntmps15
      go_wp2_with (first | (go_at_call 41; (with_reducible refine (Q1.out _).mono ?_); rintro e w2 ⟨rfl, hB⟩; replace H := H.next hB; clear hB) | (go_at_call 42; (with_reducible refine (Q2.out _).mono ?_); rintro e w2 ⟨rfl, hB⟩; replace H := H.next hB; clear hB) | (go_at_call 43; (with_reducible refine (Q3.out _).mono ?_); rintro e w2 ⟨rfl, hB⟩; replace H := H.next hB; clear hB) | (go_at_call 44; (with_reducible refine (Q4.out _).mono ?_); rintro e w2 ⟨rfl, hB⟩; replace H := H.next hB; clear hB) | (go_at_call 45; (with_reducible refine (Q5.out _).mono ?_); rintro e w2 ⟨rfl, hB⟩; replace H := H.next hB; clear hB) | (refine wpList_mnew rfl _ rfl H _ HZ.out ?_; clear H; intro R1 w1 _ H) | go_skip | (refine gate_store _ _ _ rfl ?_; (first | (refine wpList_mstoreA rfl _ _ _ rfl rfl _ rfl 0 H _ _ rfl rfl (by kernel_rfl) (by kernel_rfl) (by kernel_rfl) ?_)); clear H; intro w1 H; simp only [List.set_cons_zero, List.set_cons_succ] at H) | fail)
      refine ret_mem1 rfl _ rfl 0 H _ rfl (by kernel_rfl) (by kernel_rfl) rfl ?_
      exact ⟨rfl, H.toBelow⟩
    · rw [show goodW op false (nm.toList == [78, 79, 80]) = (op != 235) by unfold goodW; rw [g2, g3]; rfl]
      go_enter Tryz.func15, Tryz.ntmps15
      go_wp2_with (first | (go_at_call 41; (with_reducible refine (Q1.out _).mono ?_); rintro e w2 ⟨rfl, hB⟩; replace H := H.next hB; clear hB) | (go_at_call 42; (with_reducible refine (Q2.out _).mono ?_); rintro e w2 ⟨rfl, hB⟩; replace H := H.next hB; clear hB) | (go_at_call 43; (with_reducible refine (Q3.out _).mono ?_); rintro e w2 ⟨rfl, hB⟩; replace H := H.next hB; clear hB) | (go_at_call 44; (with_reducible refine (Q4.out _).mono ?_); rintro e w2 ⟨rfl, hB⟩; replace H := H.next hB; clear hB) | (go_at_call 45; (with_reducible refine (Q5.out _).mono ?_); rintro e w2 ⟨rfl, hB⟩; replace H := H.next hB; clear hB) | (refine wpList_mnew rfl _ rfl H _ HZ.out ?_; clear H; intro R1 w1 _ H) | go_skip | (refine gate_store _ _ _ rfl ?_; (first | (refine wpList_mstoreA rfl _ _ _ rfl rfl _ rfl 0 H _ _ rfl rfl (by kernel_rfl) (by kernel_rfl) (by kernel_rfl) ?_)); clear H; intro w1 H; simp only [List.set_cons_zero, List.set_cons_succ] at H) | fail)
      refine ret_mem1 rfl _ rfl 0 H _ rfl (by kernel_rfl) (by kernel_rfl) rfl ?_
      exact ⟨rfl, H.toBelow⟩
    · rw [show goodW op false (nm.toList == [78, 79, 80]) = false by unfold goodW; rw [g2, g3]; rfl]
      go_enter Tryz.func15, Tryz.ntmps15
      go_wp2_with (first | (go_at_call 41; (with_reducible refine (Q1.out _).mono ?_); rintro e w2 ⟨rfl, hB⟩; replace H := H.next hB; clear hB) | (go_at_call 42; (with_reducible refine (Q2.out _).mono ?_); rintro e w2 ⟨rfl, hB⟩; replace H := H.next hB; clear hB) | (go_at_call 43; (with_reducible refine (Q3.out _).mono ?_); rintro e w2 ⟨rfl, hB⟩; replace H := H.next hB; clear hB) | (go_at_call 44; (with_reducible refine (Q4.out _).mono ?_); rintro e w2 ⟨rfl, hB⟩; replace H := H.next hB; clear hB) | (go_at_call 45; (with_reducible refine (Q5.out _).mono ?_); rintro e w2 ⟨rfl, hB⟩; replace H := H.next hB; clear hB) | (refine wpList_mnew rfl _ rfl H _ HZ.out ?_; clear H; intro R1 w1 _ H) | go_skip | (refine gate_store _ _ _ rfl ?_; (first | (refine wpList_mstoreA rfl _ _ _ rfl rfl _ rfl 0 H _ _ rfl rfl (by kernel_rfl) (by kernel_rfl) (by kernel_rfl) ?_)); clear H; intro w1 H; simp only [List.set_cons_zero, List.set_cons_succ] at H) | fail)
      refine ret_mem1 rfl _ rfl 0 H _ rfl (by kernel_rfl) (by kernel_rfl) rfl ?_
      exact ⟨rfl, H.toBelow⟩
  · rw [show crossV m u = true by unfold crossV; rw [h1, h2, h3, h4]; rfl]
    rcases hg with rfl | ⟨rfl, g2⟩ | ⟨rfl, g2, g3⟩ | ⟨rfl, g2, g3⟩
    · rw [show goodW op true (nm.toList == [78, 79, 80]) = false by unfold goodW; simp]
      go_enter Tryz.func15, Tryz.ntmps15
      go_wp2_with (first | (go_at_call 41; (with_reducible refine (Q1.out _).mono ?_); rintro e w2 ⟨rfl, hB⟩; replace H := H.next hB; clear hB) | (go_at_call 42; (with_reducible refine (Q2.out _).mono ?_); rintro e w2 ⟨rfl, hB⟩; replace H := H.next hB; clear hB) | (go_at_call 43; (with_reducible refine (Q3.out _).mono ?_); rintro e w2 ⟨rfl, hB⟩; replace H := H.next hB; clear hB) | (go_at_call 44; (with_reducible refine (Q4.out _).mono ?_); rintro e w2 ⟨rfl, hB⟩; replace H := H.next hB; clear hB) | (go_at_call 45; (with_reducible refine (Q5.out _).mono ?_); rintro e w2 ⟨rfl, hB⟩; replace H := H.next hB; clear hB) | (refine wpList_mnew rfl _ rfl H _ HZ.out ?_; clear H; intro R1 w1 _ H) | go_skip | (refine gate_store _ _ _ rfl ?_; (first | (refine wpList_mstoreA rfl _ _ _ rfl rfl _ rfl 0 H _ _ rfl rfl (by kernel_rfl) (by kernel_rfl) (by kernel_rfl) ?_)); clear H; intro w1 H; simp only [List.set_cons_zero, List.set_cons_succ] at H) | fail)
      refine ret_mem1 rfl _ rfl 0 H _ rfl (by kernel_rfl) (by kernel_rfl) rfl ?_
      exact ⟨rfl, H.toBelow⟩
    · rw [show goodW op false (nm.toList == [78, 79, 80]) = (op != 235) by unfold goodW; rw [g2]; simp]
      go_enter Tryz.func15, Tryz.ntmps15
      go_wp2_with (first | (go_at_call 41; (with_reducible refine (Q1.out _).mono ?_); rintro e w2 ⟨rfl, hB⟩; replace H := H.next hB; clear hB) | (go_at_call 42; (with_reducible refine (Q2.out _).mono ?_); rintro e w2 ⟨rfl, hB⟩; replace H := H.next hB; clear hB) | (go_at_call 43; (with_reducible refine (Q3.out _).mono ?_); rintro e w2 ⟨rfl, hB⟩; replace H := H.next hB; clear hB) | (go_at_call 44; (with_reducible refine (Q4.out _).mono ?_); rintro e w2 ⟨rfl, hB⟩; replace H := H.next hB; clear hB) | (go_at_call 45; (with_reducible refine (Q5.out _).mono ?_); rintro e w2 ⟨rfl, hB⟩; replace H := H.next hB; clear hB) | (refine wpList_mnew rfl _ rfl H _ HZ.out ?_; clear H; intro R1 w1 _ H) | go_skip | (refine gate_store _ _ _ rfl ?_; (first | (refine wpList_mstoreA rfl _ _ _ rfl rfl _ rfl 0 H _ _ rfl rfl (by kernel_rfl) (by kernel_rfl) (by kernel_rfl) ?_)); clear H; intro w1 H; simp only [List.set_cons_zero, List.set_cons_succ] at H) | fail)
      refine ret_mem1 rfl _ rfl 0 H _ rfl (by kernel_rfl) (by kernel_rfl) rfl ?_
      exact ⟨rfl, H.toBelow⟩
    · rw [show goodW op false (nm.toList == [78, 79, 80]) = (op != 235) by unfold goodW; rw [g2, g3]; rfl]
      go_enter Tryz.func15, Tryz.ntmps15
      go_wp2_with (first | (go_at_call 41; (with_reducible refine (Q1.out _).mono ?_); rintro e w2 ⟨rfl, hB⟩; replace H := H.next hB; clear hB) | (go_at_call 42; (with_reducible refine (Q2.out _).mono ?_); rintro e w2 ⟨rfl, hB⟩; replace H := H.next hB; clear hB) | (go_at_call 43; (with_reducible refine (Q3.out _).mono ?_); rintro e w2 ⟨rfl, hB⟩; replace H := H.next hB; clear hB) | (go_at_call 44; (with_reducible refine (Q4.out _).mono ?_); rintro e w2 ⟨rfl, hB⟩; replace H := H.next hB; clear hB) | (go_at_call 45; (with_reducible refine (Q5.out _).mono ?_); rintro e w2 ⟨rfl, hB⟩; replace H := H.next hB; clear hB) | (refine wpList_mnew rfl _ rfl H _ HZ.out ?_; clear H; intro R1 w1 _ H) | go_skip | (refine gate_store _ _ _ rfl ?_; (first | (refine wpList_mstoreA rfl _ _ _ rfl rfl _ rfl 0 H _ _ rfl rfl (by kernel_rfl) (by kernel_rfl) (by kernel_rfl) ?_)); clear H; intro w1 H; simp only [List.set_cons_zero, List.set_cons_succ] at H) | fail)
      refine ret_mem1 rfl _ rfl 0 H _ rfl (by kernel_rfl) (by kernel_rfl) rfl ?_
      exact ⟨rfl, H.toBelow⟩
    · rw [show goodW op false (nm.toList == [78, 79, 80]) = false by unfold goodW; rw [g2, g3]; rfl]
      go_enter Tryz.func15, Tryz.ntmps15
      go_wp2_with (first | (go_at_call 41; (with_reducible refine (Q1.out _).mono ?_); rintro e w2 ⟨rfl, hB⟩; replace H := H.next hB; clear hB) | (go_at_call 42; (with_reducible refine (Q2.out _).mono ?_); rintro e w2 ⟨rfl, hB⟩; replace H := H.next hB; clear hB) | (go_at_call 43; (with_reducible refine (Q3.out _).mono ?_); rintro e w2 ⟨rfl, hB⟩; replace H := H.next hB; clear hB) | (go_at_call 44; (with_reducible refine (Q4.out _).mono ?_); rintro e w2 ⟨rfl, hB⟩; replace H := H.next hB; clear hB) | (go_at_call 45; (with_reducible refine (Q5.out _).mono ?_); rintro e w2 ⟨rfl, hB⟩; replace H := H.next hB; clear hB) | (refine wpList_mnew rfl _ rfl H _ HZ.out ?_; clear H; intro R1 w1 _ H) | go_skip | (refine gate_store _ _ _ rfl ?_; (first | (refine wpList_mstoreA rfl _ _ _ rfl rfl _ rfl 0 H _ _ rfl rfl (by kernel_rfl) (by kernel_rfl) (by kernel_rfl) ?_)); clear H; intro w1 H; simp only [List.set_cons_zero, List.set_cons_succ] at H) | fail)
      refine ret_mem1 rfl _ rfl 0 H _ rfl (by kernel_rfl) (by kernel_rfl) rfl ?_
      exact ⟨rfl, H.toBelow⟩
  · rw [show crossV m u = true by unfold crossV; rw [h1, h2, h3, h4, h5]; rfl]
    rcases hg with rfl | ⟨rfl, g2⟩ | ⟨rfl, g2, g3⟩ | ⟨rfl, g2, g3⟩
    · rw [show goodW op true (nm.toList == [78, 79, 80]) = false by unfold goodW; simp]
      go_enter Tryz.func15, Tryz.ntmps15
      go_wp2_with (first | (go_at_call 41; (with_reducible refine (Q1.out _).mono ?_); rintro e w2 ⟨rfl, hB⟩; replace H := H.next hB; clear hB) | (go_at_call 42; (with_reducible refine (Q2.out _).mono ?_); rintro e w2 ⟨rfl, hB⟩; replace H := H.next hB; clear hB) | (go_at_call 43; (with_reducible refine (Q3.out _).mono ?_); rintro e w2 ⟨rfl, hB⟩; replace H := H.next hB; clear hB) | (go_at_call 44; (with_reducible refine (Q4.out _).mono ?_); rintro e w2 ⟨rfl, hB⟩; replace H := H.next hB; clear hB) | (go_at_call 45; (with_reducible refine (Q5.out _).mono ?_); rintro e w2 ⟨rfl, hB⟩; replace H := H.next hB; clear hB) | (refine wpList_mnew rfl _ rfl H _ HZ.out ?_; clear H; intro R1 w1 _ H) | go_skip | (refine gate_store _ _ _ rfl ?_; (first | (refine wpList_mstoreA rfl _ _ _ rfl rfl _ rfl 0 H _ _ rfl rfl (by kernel_rfl) (by kernel_rfl) (by kernel_rfl) ?_)); clear H; intro w1 H; simp only [List.set_cons_zero, List.set_cons_succ] at H) | fail)
      refine ret_mem1 rfl _ rfl 0 H _ rfl (by kernel_rfl) (by kernel_rfl) rfl ?_
      exact ⟨rfl, H.toBelow⟩
    · rw [show goodW op false (nm.toList == [78, 79, 80]) = (op != 235) by unfold goodW; rw [g2]; simp]
      go_enter Tryz.func15, Tryz.ntmps15
      go_wp2_with (first | (go_at_call 41; (with_reducible refine (Q1.out _).mono ?_); rintro e w2 ⟨rfl, hB⟩; replace H := H.next hB; clear hB) | (go_at_call 42; (with_reducible refine (Q2.out _).mono ?_); rintro e w2 ⟨rfl, hB⟩; replace H := H.next hB; clear hB) | (go_at_call 43; (with_reducible refine (Q3.out _).mono ?_); rintro e w2 ⟨rfl, hB⟩; replace H := H.next hB; clear hB) | (go_at_call 44; (with_reducible refine (Q4.out _).mono ?_); rintro e w2 ⟨rfl, hB⟩; replace H := H.next hB; clear hB) | (go_at_call 45; (with_reducible refine (Q5.out _).mono ?_); rintro e w2 ⟨rfl, hB⟩; replace H := H.next hB; clear hB) | (refine wpList_mnew rfl _ rfl H _ HZ.out ?_; clear H; intro R1 w1 _ H) | go_skip | (refine gate_store _ _ _ rfl ?_; (first | (refine wpList_mstoreA rfl _ _ _ rfl rfl _ rfl 0 H _ _ rfl rfl (by kernel_rfl) (by kernel_rfl) (by kernel_rfl) ?_)); clear H; intro w1 H; simp only [List.set_cons_zero, List.set_cons_succ] at H) | fail)
      refine ret_mem1 rfl _ rfl 0 H _ rfl (by kernel_rfl) (by kernel_rfl) rfl ?_
      exact ⟨rfl, H.toBelow⟩
    · rw [show goodW op false (nm.toList == [78, 79, 80]) = (op != 235) by unfold goodW; rw [g2, g3]; rfl]
      go_enter Tryz.func15, Tryz.ntmps15
      go_wp2_with (first | (go_at_call 41; (with_reducible refine (Q1.out _).mono ?_); rintro e w2 ⟨rfl, hB⟩; replace H := H.next hB; clear hB) | (go_at_call 42; (with_reducible refine (Q2.out _).mono ?_); rintro e w2 ⟨rfl, hB⟩; replace H := H.next hB; clear hB) | (go_at_call 43; (with_reducible refine (Q3.out _).mono ?_); rintro e w2 ⟨rfl, hB⟩; replace H := H.next hB; clear hB) | (go_at_call 44; (with_reducible refine (Q4.out _).mono ?_); rintro e w2 ⟨rfl, hB⟩; replace H := H.next hB; clear hB) | (go_at_call 45; (with_reducible refine (Q5.out _).mono ?_); rintro e w2 ⟨rfl, hB⟩; replace H := H.next hB; clear hB) | (refine wpList_mnew rfl _ rfl H _ HZ.out ?_; clear H; intro R1 w1 _ H) | go_skip | (refine gate_store _ _ _ rfl ?_; (first | (refine wpList_mstoreA rfl _ _ _ rfl rfl _ rfl 0 H _ _ rfl rfl (by kernel_rfl) (by kernel_rfl) (by kernel_rfl) ?_)); clear H; intro w1 H; simp only [List.set_cons_zero, List.set_cons_succ] at H) | fail)
      refine ret_mem1 rfl _ rfl 0 H _ rfl (by kernel_rfl) (by kernel_rfl) rfl ?_
      exact ⟨rfl, H.toBelow⟩
    · rw [show goodW op false (nm.toList == [78, 79, 80]) = false by unfold goodW; rw [g2, g3]; rfl]
      go_enter Tryz.func15, Tryz.ntmps15
      go_wp2_with (first | (go_at_call 41; (with_reducible refine (Q1.out _).mono ?_); rintro e w2 ⟨rfl, hB⟩; replace H := H.next hB; clear hB) | (go_at_call 42; (with_reducible refine (Q2.out _).mono ?_); rintro e w2 ⟨rfl, hB⟩; replace H := H.next hB; clear hB) | (go_at_call 43; (with_reducible refine (Q3.out _).mono ?_); rintro e w2 ⟨rfl, hB⟩; replace H := H.next hB; clear hB) | (go_at_call 44; (with_reducible refine (Q4.out _).mono ?_); rintro e w2 ⟨rfl, hB⟩; replace H := H.next hB; clear hB) | (go_at_call 45; (with_reducible refine (Q5.out _).mono ?_); rintro e w2 ⟨rfl, hB⟩; replace H := H.next hB; clear hB) | (refine wpList_mnew rfl _ rfl H _ HZ.out ?_; clear H; intro R1 w1 _ H) | go_skip | (refine gate_store _ _ _ rfl ?_; (first | (refine wpList_mstoreA rfl _ _ _ rfl rfl _ rfl 0 H _ _ rfl rfl (by kernel_rfl) (by kernel_rfl) (by kernel_rfl) ?_)); clear H; intro w1 H; simp only [List.set_cons_zero, List.set_cons_succ] at H) | fail)
      refine ret_mem1 rfl _ rfl 0 H _ rfl (by kernel_rfl) (by kernel_rfl) rfl ?_
      exact ⟨rfl, H.toBelow⟩
  · rw [show crossV m u = false by unfold crossV; rw [h1, h2, h3, h4, h5]; rfl]
    rcases hg with rfl | ⟨rfl, g2⟩ | ⟨rfl, g2, g3⟩ | ⟨rfl, g2, g3⟩
    · rw [show goodW op true (nm.toList == [78, 79, 80]) = false by unfold goodW; simp]
      go_enter Tryz.func15, Tryz.ntmps15
      go_wp2_with (first | (go_at_call 41; (with_reducible refine (Q1.out _).mono ?_); rintro e w2 ⟨rfl, hB⟩; replace H := H.next hB; clear hB) | (go_at_call 42; (with_reducible refine (Q2.out _).mono ?_); rintro e w2 ⟨rfl, hB⟩; replace H := H.next hB; clear hB) | (go_at_call 43; (with_reducible refine (Q3.out _).mono ?_); rintro e w2 ⟨rfl, hB⟩; replace H := H.next hB; clear hB) | (go_at_call 44; (with_reducible refine (Q4.out _).mono ?_); rintro e w2 ⟨rfl, hB⟩; replace H := H.next hB; clear hB) | (go_at_call 45; (with_reducible refine (Q5.out _).mono ?_); rintro e w2 ⟨rfl, hB⟩; replace H := H.next hB; clear hB) | (refine wpList_mnew rfl _ rfl H _ HZ.out ?_; clear H; intro R1 w1 _ H) | go_skip | (refine gate_store _ _ _ rfl ?_; (first | (refine wpList_mstoreA rfl _ _ _ rfl rfl _ rfl 0 H _ _ rfl rfl (by kernel_rfl) (by kernel_rfl) (by kernel_rfl) ?_)); clear H; intro w1 H; simp only [List.set_cons_zero, List.set_cons_succ] at H) | fail)
      refine ret_mem1 rfl _ rfl 0 H _ rfl (by kernel_rfl) (by kernel_rfl) rfl ?_
      exact ⟨rfl, H.toBelow⟩
    · rw [show goodW op false (nm.toList == [78, 79, 80]) = (op != 235) by unfold goodW; rw [g2]; simp]
      go_enter Tryz.func15, Tryz.ntmps15
      go_wp2_with (first | (go_at_call 41; (with_reducible refine (Q1.out _).mono ?_); rintro e w2 ⟨rfl, hB⟩; replace H := H.next hB; clear hB) | (go_at_call 42; (with_reducible refine (Q2.out _).mono ?_); rintro e w2 ⟨rfl, hB⟩; replace H := H.next hB; clear hB) | (go_at_call 43; (with_reducible refine (Q3.out _).mono ?_); rintro e w2 ⟨rfl, hB⟩; replace H := H.next hB; clear hB) | (go_at_call 44; (with_reducible refine (Q4.out _).mono ?_); rintro e w2 ⟨rfl, hB⟩; replace H := H.next hB; clear hB) | (go_at_call 45; (with_reducible refine (Q5.out _).mono ?_); rintro e w2 ⟨rfl, hB⟩; replace H := H.next hB; clear hB) | (refine wpList_mnew rfl _ rfl H _ HZ.out ?_; clear H; intro R1 w1 _ H) | go_skip | (refine gate_store _ _ _ rfl ?_; (first | (refine wpList_mstoreA rfl _ _ _ rfl rfl _ rfl 0 H _ _ rfl rfl (by kernel_rfl) (by kernel_rfl) (by kernel_rfl) ?_)); clear H; intro w1 H; simp only [List.set_cons_zero, List.set_cons_succ] at H) | fail)
      refine ret_mem1 rfl _ rfl 0 H _ rfl (by kernel_rfl) (by kernel_rfl) rfl ?_
      exact ⟨rfl, H.toBelow⟩
    · rw [show goodW op false (nm.toList == [78, 79, 80]) = (op != 235) by unfold goodW; rw [g2, g3]; rfl]
      go_enter Tryz.func15, Tryz.ntmps15
      go_wp2_with (first | (go_at_call 41; (with_reducible refine (Q1.out _).mono ?_); rintro e w2 ⟨rfl, hB⟩; replace H := H.next hB; clear hB) | (go_at_call 42; (with_reducible refine (Q2.out _).mono ?_); rintro e w2 ⟨rfl, hB⟩; replace H := H.next hB; clear hB) | (go_at_call 43; (with_reducible refine (Q3.out _).mono ?_); rintro e w2 ⟨rfl, hB⟩; replace H := H.next hB; clear hB) | (go_at_call 44; (with_reducible refine (Q4.out _).mono ?_); rintro e w2 ⟨rfl, hB⟩; replace H := H.next hB; clear hB) | (go_at_call 45; (with_reducible refine (Q5.out _).mono ?_); rintro e w2 ⟨rfl, hB⟩; replace H := H.next hB; clear hB) | (refine wpList_mnew rfl _ rfl H _ HZ.out ?_; clear H; intro R1 w1 _ H) | go_skip | (refine gate_store _ _ _ rfl ?_; (first | (refine wpList_mstoreA rfl _ _ _ rfl rfl _ rfl 0 H _ _ rfl rfl (by kernel_rfl) (by kernel_rfl) (by kernel_rfl) ?_)); clear H; intro w1 H; simp only [List.set_cons_zero, List.set_cons_succ] at H) | fail)
      refine ret_mem1 rfl _ rfl 0 H _ rfl (by kernel_rfl) (by kernel_rfl) rfl ?_
      exact ⟨rfl, H.toBelow⟩
    · rw [show goodW op false (nm.toList == [78, 79, 80]) = false by unfold goodW; rw [g2, g3]; rfl]
      go_enter Tryz.func15, Tryz.ntmps15
      go_wp2_with (first | (go_at_call 41; (with_reducible refine (Q1.out _).mono ?_); rintro e w2 ⟨rfl, hB⟩; replace H := H.next hB; clear hB) | (go_at_call 42; (with_reducible refine (Q2.out _).mono ?_); rintro e w2 ⟨rfl, hB⟩; replace H := H.next hB; clear hB) | (go_at_call 43; (with_reducible refine (Q3.out _).mono ?_); rintro e w2 ⟨rfl, hB⟩; replace H := H.next hB; clear hB) | (go_at_call 44; (with_reducible refine (Q4.out _).mono ?_); rintro e w2 ⟨rfl, hB⟩; replace H := H.next hB; clear hB) | (go_at_call 45; (with_reducible refine (Q5.out _).mono ?_); rintro e w2 ⟨rfl, hB⟩; replace H := H.next hB; clear hB) | (refine wpList_mnew rfl _ rfl H _ HZ.out ?_; clear H; intro R1 w1 _ H) | go_skip | (refine gate_store _ _ _ rfl ?_; (first | (refine wpList_mstoreA rfl _ _ _ rfl rfl _ rfl 0 H _ _ rfl rfl (by kernel_rfl) (by kernel_rfl) (by kernel_rfl) ?_)); clear H; intro w1 H; simp only [List.set_cons_zero, List.set_cons_succ] at H) | fail)
      refine ret_mem1 rfl _ rfl 0 H _ rfl (by kernel_rfl) (by kernel_rfl) rfl ?_
      exact ⟨rfl, H.toBelow⟩
end Go.Proofs.YtopmlmpadkdhjaaGreatDoor
