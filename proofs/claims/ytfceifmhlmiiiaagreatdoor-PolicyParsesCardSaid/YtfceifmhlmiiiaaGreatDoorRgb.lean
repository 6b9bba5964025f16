/-
  Contracts of the document's plain answers that only read ranges, and cells: which may be, which places are in them, whether two lists are the same. Over this seat's translation; no condition.
-/
import Derived.Test.YtfceifmhlmiiiaaGreatDoorRng
namespace Go.Proofs.YtfceifmhlmiiiaaGreatDoor
open Go.RowKit

theorem nextc {w w' : World} {b o : Nat} {x : Value} (hb : Below w.heap.size w w') (h : b < w.heap.size ∧ w.cell? ⟨b, o, none⟩ = some x) : b < w'.heap.size ∧ w'.cell? ⟨b, o, none⟩ = some x :=
  ⟨Nat.lt_of_lt_of_le h.1 hb.size, by rw [hb.cell (p := ⟨b, o, none⟩) h.1]; exact h.2⟩
theorem nextb {W w w' : World} (hb : Below w.heap.size w w') (h : Below W.heap.size W w) : Below W.heap.size W w' := h.next hb

/-! ### the same, one by one -/
def eqL {α : Type} [DecidableEq α] (l m : List α) : Bool := decide (l = m)
theorem eqL_self {α : Type} [DecidableEq α] (l : List α) : eqL l l = true := by simp [eqL]
theorem eqL_len {α : Type} [DecidableEq α] (l m : List α) (h : ¬ l.length = m.length) : eqL l m = false := by
  simp only [eqL, decide_eq_false_iff_not]; intro e; exact h (by rw [e])
theorem eqL_end {α : Type} [DecidableEq α] (l m : List α) (d : α) (hl : l.length = m.length) (h : ∀ j, j < l.length → l.getD j d = m.getD j d) : eqL l m = true := by
  simp only [eqL, decide_eq_true_eq]
  refine List.ext_getElem hl fun i h1 h2 => ?_
  have := h i h1
  rw [List.getD_eq_getElem?_getD, List.getD_eq_getElem?_getD, List.getElem?_eq_getElem h1, List.getElem?_eq_getElem h2] at this
  exact this
theorem eqL_no {α : Type} [DecidableEq α] (l m : List α) (d : α) (k : Nat) (h : ¬ l.getD k d = m.getD k d) : eqL l m = false := by
  simp only [eqL, decide_eq_false_iff_not]; intro e; exact h (by rw [e])

theorem stood_range : Tryz.prog.stoodInHeld 42 = false := by kernel_rfl
theorem struct_range : Tryz.prog.underlying 42 = some (.struct (Tryz.prog.fieldsOf 42)) := by kernel_rfl
theorem neq_range (a b c d : Int) (w : World) : (binOp .neq 42 (.agg #[.int .i64 a, .int .i64 b]) (.agg #[.int .i64 c, .int .i64 d])).run Tryz.prog w = .ok (.bool (!(a == c && b == d))) w := by
  have u3 := Tryz.underlying3
  have a3 := Tryz.isAgg3
  have z3 := Tryz.sizeOf3
  rw [run_neq_struct, show (10000 : Nat) = 9999 + 1 from rfl, run_equalIn_agg w 9999 42 _ _ struct_range stood_range]
  simp only [Program.fieldsOf, Tryz.underlying42]
  go_simp
  by_cases h1 : a = c <;> by_cases h2 : b = d <;> simp [h1, h2]

set_option maxHeartbeats 2000000 in
theorem sameR_ct (sv tv : Value) (l m : List (Int × Int)) (w : World) (hr : Rg w sv l) (hs : Rg w tv m) :
    Calls Tryz.prog 14 #[sv, tv] w fun e w' => e = .returned (.bool (eqL l m)) ∧ Below w.heap.size w w' := by
  obtain ⟨sa, cap, rfl, hcap, hn, hr⟩ := hr
  obtain ⟨ta, cap2, rfl, hcap2, hn2, hs⟩ := hs
  unfold maxLen at hn hn2
  by_cases hl : l.length = m.length
  · rcases hr with rfl | ⟨sb, off, rfl, hb, hc⟩
    · obtain rfl : m = [] := List.length_eq_zero_iff.1 hl.symm
      go_enter Tryz.func14, Tryz.ntmps14
      go_wp2
      go_loopw [5] (fun i wr => i = .int .i64 0 ∧ wr = w) (fun i _ => 0)
      case atStart => exact ⟨rfl, rfl⟩
      case round =>
        obtain ⟨rfl, rfl⟩ := hrel
        go_wp2
        go_ret
        exact ⟨rfl, Below.refl _ _⟩
    · rcases hs with rfl | ⟨tb, off2, rfl, hb2, hc2⟩
      · obtain rfl : l = [] := List.length_eq_zero_iff.1 hl
        go_enter Tryz.func14, Tryz.ntmps14
        go_wp2
        go_loopw [5] (fun i wr => i = .int .i64 0 ∧ wr = w) (fun i _ => 0)
        case atStart => exact ⟨rfl, rfl⟩
        case round =>
          obtain ⟨rfl, rfl⟩ := hrel
          go_wp2
          go_ret
          exact ⟨rfl, Below.refl _ _⟩
      · have Hc := Lib.hid hc
        have Hc2 := Lib.hid hc2
        clear hc hc2
        have Hend := Lib.hid (eqL_end l m (0, 0) hl)
        have Hno := Lib.hid (eqL_no l m (0, 0))
        generalize hres : eqL l m = res at *
        clear hres
        have lm : m.length = l.length := hl.symm
        rw [lm] at hcap2
        simp only [lm]
        clear lm
        have Hl := Lib.hid hl
        clear hl
        go_enter Tryz.func14, Tryz.ntmps14
        go_wp2
        go_loopw [5] (fun i wr => ∃ (k : Nat), k ≤ l.length ∧ i = .int .i64 k ∧ Hid (∀ j, j < k → l.getD j (0, 0) = m.getD j (0, 0)) ∧ Below w.heap.size w wr) (fun i _ => l.length - (intOf i).toNat)
        case atStart => exact ⟨0, Nat.zero_le _, rfl, fun j hj => absurd hj (by omega), Below.refl _ _⟩
        case round =>
          obtain ⟨k, hk, rfl, he, hB⟩ := hrel
          by_cases hlt : k < l.length
          · obtain ⟨h1, h2⟩ := Hc.out k hlt
            obtain ⟨g1, g2⟩ := Hc2.out k (by rw [← Hl.out]; exact hlt)
            rw [← hB.cell hb] at h1 h2
            rw [← hB.cell hb2] at g1 g2
            obtain ⟨a, b, hab⟩ : ∃ a b, nthR l k = (a, b) := ⟨_, _, rfl⟩
            obtain ⟨c, d, hcd⟩ : ∃ a b, nthR m k = (a, b) := ⟨_, _, rfl⟩
            rw [hab] at h1 h2
            rw [hcd] at g1 g2
            dsimp only at h1 h2 g1 g2
            by_cases hq : a = c ∧ b = d
            · obtain ⟨rfl, rfl⟩ := hq
              have He : Hid (∀ j, j < k + 1 → l.getD j (0, 0) = m.getD j (0, 0)) := fun j hj => by
                by_cases ej : j = k
                · subst ej; exact hab.trans hcd.symm
                · exact he.out j (by omega)
              clear he hab hcd Hc Hc2
              go_wp2_with fail
              go_quiet (fail)
              go_wp2
              go_roundw
              case rel => exact ⟨k + 1, by omega, by go_num, He, below_drewN hB _⟩
              case measure => simp [intOf]; omega
            · have hres := Hno.out k (by rw [show l.getD k (0, 0) = (a, b) from hab, show m.getD k (0, 0) = (c, d) from hcd]; intro e; exact hq (Prod.mk.injEq .. ▸ e))
              have Hres := Lib.hid hres
              clear he hab hcd Hc Hc2 hres
              have hq' : ∀ w, (binOp .neq 42 (.agg #[.int .i64 a, .int .i64 b]) (.agg #[.int .i64 c, .int .i64 d])).run Tryz.prog w = .ok (.bool true) w := fun w => by
                rw [neq_range, show (a == c && b == d) = false from by simp; intro e f; exact hq ⟨e, f⟩]
                rfl
              clear hq
              go_wp2_with fail
              go_quiet (fail)
              go_wp2
              go_ret
              exact ⟨by rw [Hres.out]; rfl, below_drewN hB _⟩
          · have Hs := Lib.hid (Hend.out fun j hj => he.out j (by omega))
            clear Hc he Hc2
            go_wp2
            go_ret
            exact ⟨by rw [Hs.out]; rfl, hB⟩
  · rw [eqL_len l m hl]
    clear hr hs
    go_enter Tryz.func14, Tryz.ntmps14
    go_wp2
    go_ret
    exact ⟨rfl, (by repeat' (first | exact Below.refl _ _ | (refine Below.setCell ?_ (by first | (simp; done) | (simp; omega) | omega) _) | (refine Below.drew ?_) | (refine Below.drewN ?_ _) | (refine Below.alloc ?_ (by first | (simp; done) | (simp; omega) | omega) _)))⟩
end Go.Proofs.YtfceifmhlmiiiaaGreatDoor
