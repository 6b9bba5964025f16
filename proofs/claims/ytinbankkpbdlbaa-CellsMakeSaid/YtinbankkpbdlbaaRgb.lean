/-
  Contracts of the document's plain answers that only read ranges, and cells: which may be, which places are in them, whether two lists are the same. Over this seat's translation; no condition.
-/
import Derived.Test.YtinbankkpbdlbaaRng
namespace Go.Proofs.Ytinbankkpbdlbaa
open Go.RowKit

theorem nextc {w w' : World} {b o : Nat} {x : Value} (hb : Below w.heap.size w w') (h : b < w.heap.size ∧ w.cell? ⟨b, o, none⟩ = some x) : b < w'.heap.size ∧ w'.cell? ⟨b, o, none⟩ = some x :=
  ⟨Nat.lt_of_lt_of_le h.1 hb.size, by rw [hb.cell (p := ⟨b, o, none⟩) h.1]; exact h.2⟩
theorem nextb {W w w' : World} (hb : Below w.heap.size w w') (h : Below W.heap.size W w) : Below W.heap.size W w' := h.next hb

set_option maxHeartbeats 1000000 in
theorem wholes_ct (sv : Value) (l : List (Int × Int)) (w : World) (hr : Rg w sv l) :
    Calls Try.prog 15 #[sv] w fun e w' => e = .returned (.bool (l.all wholeB)) ∧ Below w.heap.size w w' := by
  obtain ⟨sa, cap, rfl, hcap, hn, hr⟩ := hr
  unfold maxLen at hn
  rcases hr with rfl | ⟨sb, off, rfl, hb, hc⟩
  · go_enter Try.func15, Try.ntmps15
    go_wp2
    go_loopw [3] (fun i wr => i = .int .i64 0 ∧ wr = w) (fun i _ => 0)
    case atStart => exact ⟨rfl, rfl⟩
    case round =>
      obtain ⟨rfl, rfl⟩ := hrel
      go_wp2
      go_ret
      exact ⟨rfl, Below.refl _ _⟩
  have Hc := Lib.hid hc
  clear hc
  go_enter Try.func15, Try.ntmps15
  go_wp2
  go_loopw [3] (fun i wr => ∃ (k : Nat), k ≤ l.length ∧ i = .int .i64 k ∧ Hid (l.all wholeB = (l.drop k).all wholeB) ∧ Below w.heap.size w wr) (fun i _ => l.length - (intOf i).toNat)
  case atStart => exact ⟨0, Nat.zero_le _, rfl, by simp [Hid], Below.refl _ _⟩
  case round =>
    obtain ⟨k, hk, rfl, he, hB⟩ := hrel
    by_cases hlt : k < l.length
    · obtain ⟨h1, h2⟩ := Hc.out k hlt
      rw [← hB.cell hb] at h1 h2
      obtain ⟨a, b, hab⟩ : ∃ a b, nthR l k = (a, b) := ⟨_, _, rfl⟩
      have hs := he.out
      rw [drop_cons' l k (0, 0) hlt, show l.getD k (0, 0) = (a, b) from hab, List.all_cons] at hs
      rw [hab] at h1 h2
      dsimp only at h1 h2
      have hf := fun W => whole_ct a b W
      clear hab he
      cases hw : wholeB (a, b)
      · rw [hw] at hf
        rw [hw, Bool.false_and] at hs
        have Hs := Lib.hid hs
        clear hs hw Hc
        go_wp2_with fail
        refine (hf _).mono ?_
        rintro e w1 ⟨rfl, hB1⟩
        go_wp2
        go_ret
        exact ⟨by rw [Hs.out]; rfl, hB.next hB1⟩
      · rw [hw] at hf
        rw [hw, Bool.true_and] at hs
        have Hs := Lib.hid hs
        clear hs hw Hc
        go_wp2_with fail
        refine (hf _).mono ?_
        rintro e w1 ⟨rfl, hB1⟩
        go_wp2
        go_roundw
        case rel => exact ⟨k + 1, by omega, by go_num, Hs, hB.next hB1⟩
        case measure => simp [intOf]; omega
    · have Hs : Hid (l.all wholeB = true) := by rw [List.drop_of_length_le (by omega)] at he; exact he
      clear Hc he
      go_wp2
      go_ret
      exact ⟨by rw [Hs.out]; rfl, hB⟩

set_option maxHeartbeats 1000000 in
theorem rin_ct (sv : Value) (x : Int) (l : List (Int × Int)) (w : World) (hr : Rg w sv l) :
    Calls Try.prog 14 #[sv, .int .i64 x] w fun e w' => e = .returned (.bool (inB l x)) ∧ w = w' := by
  obtain ⟨sa, cap, rfl, hcap, hn, hr⟩ := hr
  unfold maxLen at hn
  rcases hr with rfl | ⟨sb, off, rfl, hb, hc⟩
  · go_enter Try.func14, Try.ntmps14
    go_wp2
    go_loop [5, 6] (fun n i => i = .int .i64 0 ∧ n = .int .i64 0) (fun _ i => 0)
    case atStart => exact ⟨rfl, rfl⟩
    case round =>
      obtain ⟨rfl, rfl⟩ := hrel
      go_wp2
      go_ret
      exact ⟨rfl, rfl⟩
  have Hc := Lib.hid hc
  clear hc
  go_enter Try.func14, Try.ntmps14
  go_wp2
  go_loop [5, 6] (fun n i => ∃ k m : Nat, k ≤ l.length ∧ m ≤ k ∧ i = .int .i64 k ∧ n = .int .i64 m ∧ Hid (decide (0 < m) = inB (l.take k) x)) (fun _ i => l.length - (intOf i).toNat)
  case atStart => exact ⟨0, 0, Nat.zero_le _, Nat.zero_le _, rfl, rfl, by simp [Hid, inB]⟩
  case round =>
    obtain ⟨k, m, hk, hm, rfl, rfl, he⟩ := hrel
    by_cases hlt : k < l.length
    · obtain ⟨h1, h2⟩ := Hc.out k hlt
      obtain ⟨a, b, hab⟩ : ∃ a b, nthR l k = (a, b) := ⟨_, _, rfl⟩
      have hs : inB (l.take (k + 1)) x = (decide (0 < m) || inR (a, b) x) := by
        rw [take_snoc' l k (0, 0) hlt, inB_append, ← he.out, inB_one, show l.getD k (0, 0) = (a, b) from hab]
      rw [hab] at h1 h2
      dsimp only at h1 h2
      clear hab he
      by_cases ha : a ≤ x
      · by_cases hb2 : x ≤ b
        · have Hs : Hid (decide (0 < m + 1) = inB (l.take (k + 1)) x) := by rw [Hid, hs, (inR_iff _ _).2 ⟨ha, hb2⟩]; simp
          clear hs Hc
          go_wp2
          go_round
          case rel => exact ⟨k + 1, m + 1, by omega, by omega, by go_num, by go_num, Hs⟩
          case measure => simp [intOf]; omega
        · have Hs : Hid (decide (0 < m) = inB (l.take (k + 1)) x) := by rw [Hid, hs]; simp [inR, hb2]
          clear hs Hc
          go_wp2
          go_round
          case rel => exact ⟨k + 1, m, by omega, by omega, by go_num, rfl, Hs⟩
          case measure => simp [intOf]; omega
      · have Hs : Hid (decide (0 < m) = inB (l.take (k + 1)) x) := by rw [Hid, hs]; simp [inR, ha]
        clear hs Hc
        go_wp2
        go_round
        case rel => exact ⟨k + 1, m, by omega, by omega, by go_num, rfl, Hs⟩
        case measure => simp [intOf]; omega
    · have Hs : Hid (decide (0 < m) = inB l x) := by rw [List.take_of_length_le (by omega)] at he; exact he
      clear Hc he
      go_wp2
      go_ret
      refine ⟨?_, rfl⟩
      rw [← Hs.out]
      exact congrArg (fun b => Ending.returned (.bool b)) (by simp)

/-! ### the same, one by one -/
def eqL {α : Type} [DecidableEq α] (l m : List α) : Bool := decide (l = m)
theorem eqL_self {α : Type} [DecidableEq α] (l : List α) : eqL l l = true := by simp [eqL]
theorem eqL_len {α : Type} [DecidableEq α] (l m : List α) (h : ¬ l.length = m.length) : eqL l m = false := by
  simp only [eqL, decide_eq_false_iff_not]; intro e; exact h (by rw [e])
theorem eqL_end {α : Type} [DecidableEq α] (l m : List α) (d : α) (hl : l.length = m.length) (h : ∀ j, j < l.length → l.getD j d = m.getD j d) : eqL l m = true := by
  simp only [eqL, decide_eq_true_eq]
  refine List.ext_getElem hl fun i h1 h2 => ?_
  have := h i h1
  rw [List.getD_eq_getElem?_getD, List.getD_eq_getElem?_getD, List.getElem?_eq_getElem h1, List.getElem?_eq_getElem h2] at this
  exact this
theorem eqL_no {α : Type} [DecidableEq α] (l m : List α) (d : α) (k : Nat) (h : ¬ l.getD k d = m.getD k d) : eqL l m = false := by
  simp only [eqL, decide_eq_false_iff_not]; intro e; exact h (by rw [e])

theorem stood_range : Try.prog.stoodInHeld 54 = false := by kernel_rfl
theorem struct_range : Try.prog.underlying 54 = some (.struct (Try.prog.fieldsOf 54)) := by kernel_rfl
theorem neq_range (a b c d : Int) (w : World) : (binOp .neq 54 (.agg #[.int .i64 a, .int .i64 b]) (.agg #[.int .i64 c, .int .i64 d])).run Try.prog w = .ok (.bool (!(a == c && b == d))) w := by
  have u3 := Try.underlying3
  have a3 := Try.isAgg3
  have z3 := Try.sizeOf3
  rw [run_neq_struct, show (10000 : Nat) = 9999 + 1 from rfl, run_equalIn_agg w 9999 54 _ _ struct_range stood_range]
  simp only [Program.fieldsOf, Try.underlying54]
  go_simp
  by_cases h1 : a = c <;> by_cases h2 : b = d <;> simp [h1, h2]

set_option maxHeartbeats 2000000 in
theorem sameR_ct (sv tv : Value) (l m : List (Int × Int)) (w : World) (hr : Rg w sv l) (hs : Rg w tv m) :
    Calls Try.prog 17 #[sv, tv] w fun e w' => e = .returned (.bool (eqL l m)) ∧ Below w.heap.size w w' := by
  obtain ⟨sa, cap, rfl, hcap, hn, hr⟩ := hr
  obtain ⟨ta, cap2, rfl, hcap2, hn2, hs⟩ := hs
  unfold maxLen at hn hn2
  by_cases hl : l.length = m.length
  · rcases hr with rfl | ⟨sb, off, rfl, hb, hc⟩
    · obtain rfl : m = [] := List.length_eq_zero_iff.1 hl.symm
      go_enter Try.func17, Try.ntmps17
      go_wp2
      go_loopw [5] (fun i wr => i = .int .i64 0 ∧ wr = w) (fun i _ => 0)
      case atStart => exact ⟨rfl, rfl⟩
      case round =>
        obtain ⟨rfl, rfl⟩ := hrel
        go_wp2
        go_ret
        exact ⟨rfl, Below.refl _ _⟩
    · rcases hs with rfl | ⟨tb, off2, rfl, hb2, hc2⟩
      · obtain rfl : l = [] := List.length_eq_zero_iff.1 hl
        go_enter Try.func17, Try.ntmps17
        go_wp2
        go_loopw [5] (fun i wr => i = .int .i64 0 ∧ wr = w) (fun i _ => 0)
        case atStart => exact ⟨rfl, rfl⟩
        case round =>
          obtain ⟨rfl, rfl⟩ := hrel
          go_wp2
          go_ret
          exact ⟨rfl, Below.refl _ _⟩
      · have Hc := Lib.hid hc
        have Hc2 := Lib.hid hc2
        clear hc hc2
        have Hend := Lib.hid (eqL_end l m (0, 0) hl)
        have Hno := Lib.hid (eqL_no l m (0, 0))
        generalize hres : eqL l m = res at *
        clear hres
        have lm : m.length = l.length := hl.symm
        rw [lm] at hcap2
        simp only [lm]
        clear lm
        have Hl := Lib.hid hl
        clear hl
        go_enter Try.func17, Try.ntmps17
        go_wp2
        go_loopw [5] (fun i wr => ∃ (k : Nat), k ≤ l.length ∧ i = .int .i64 k ∧ Hid (∀ j, j < k → l.getD j (0, 0) = m.getD j (0, 0)) ∧ Below w.heap.size w wr) (fun i _ => l.length - (intOf i).toNat)
        case atStart => exact ⟨0, Nat.zero_le _, rfl, fun j hj => absurd hj (by omega), Below.refl _ _⟩
        case round =>
          obtain ⟨k, hk, rfl, he, hB⟩ := hrel
          by_cases hlt : k < l.length
          · obtain ⟨h1, h2⟩ := Hc.out k hlt
            obtain ⟨g1, g2⟩ := Hc2.out k (by rw [← Hl.out]; exact hlt)
            rw [← hB.cell hb] at h1 h2
            rw [← hB.cell hb2] at g1 g2
            obtain ⟨a, b, hab⟩ : ∃ a b, nthR l k = (a, b) := ⟨_, _, rfl⟩
            obtain ⟨c, d, hcd⟩ : ∃ a b, nthR m k = (a, b) := ⟨_, _, rfl⟩
            rw [hab] at h1 h2
            rw [hcd] at g1 g2
            dsimp only at h1 h2 g1 g2
            by_cases hq : a = c ∧ b = d
            · obtain ⟨rfl, rfl⟩ := hq
              have He : Hid (∀ j, j < k + 1 → l.getD j (0, 0) = m.getD j (0, 0)) := fun j hj => by
                by_cases ej : j = k
                · subst ej; exact hab.trans hcd.symm
                · exact he.out j (by omega)
              clear he hab hcd Hc Hc2
              go_wp2_with fail
              go_quiet (fail)
              go_wp2
              go_roundw
              case rel => exact ⟨k + 1, by omega, by go_num, He, below_drewN hB _⟩
              case measure => simp [intOf]; omega
            · have hres := Hno.out k (by rw [show l.getD k (0, 0) = (a, b) from hab, show m.getD k (0, 0) = (c, d) from hcd]; intro e; exact hq (Prod.mk.injEq .. ▸ e))
              have Hres := Lib.hid hres
              clear he hab hcd Hc Hc2 hres
              have hq' : ∀ w, (binOp .neq 54 (.agg #[.int .i64 a, .int .i64 b]) (.agg #[.int .i64 c, .int .i64 d])).run Try.prog w = .ok (.bool true) w := fun w => by
                rw [neq_range, show (a == c && b == d) = false from by simp; intro e f; exact hq ⟨e, f⟩]
                rfl
              clear hq
              go_wp2_with fail
              go_quiet (fail)
              go_wp2
              go_ret
              exact ⟨by rw [Hres.out]; rfl, below_drewN hB _⟩
          · have Hs := Lib.hid (Hend.out fun j hj => he.out j (by omega))
            clear Hc he Hc2
            go_wp2
            go_ret
            exact ⟨by rw [Hs.out]; rfl, hB⟩
  · rw [eqL_len l m hl]
    clear hr hs
    go_enter Try.func17, Try.ntmps17
    go_wp2
    go_ret
    exact ⟨rfl, (by repeat' (first | exact Below.refl _ _ | (refine Below.setCell ?_ (by first | (simp; done) | (simp; omega) | omega) _) | (refine Below.drew ?_) | (refine Below.drewN ?_ _) | (refine Below.alloc ?_ (by first | (simp; done) | (simp; omega) | omega) _)))⟩
end Go.Proofs.Ytinbankkpbdlbaa
