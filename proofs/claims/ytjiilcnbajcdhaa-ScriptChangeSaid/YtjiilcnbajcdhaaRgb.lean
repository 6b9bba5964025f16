/-
  Contracts of the document's plain answers that only read ranges, and cells: which may be, which places are in them, whether two lists are the same. Over this seat's translation; no condition.
-/
import Derived.Test.YtjiilcnbajcdhaaRng
namespace Go.Proofs.Ytjiilcnbajcdhaa
open Go.RowKit

theorem nextc {w w' : World} {b o : Nat} {x : Value} (hb : Below w.heap.size w w') (h : b < w.heap.size ∧ w.cell? ⟨b, o, none⟩ = some x) : b < w'.heap.size ∧ w'.cell? ⟨b, o, none⟩ = some x :=
  ⟨Nat.lt_of_lt_of_le h.1 hb.size, by rw [hb.cell (p := ⟨b, o, none⟩) h.1]; exact h.2⟩
theorem nextb {W w w' : World} (hb : Below w.heap.size w w') (h : Below W.heap.size W w) : Below W.heap.size W w' := h.next hb

set_option maxHeartbeats 1000000 in
theorem rin_ct (sv : Value) (x : Int) (l : List (Int × Int)) (w : World) (hr : Rg w sv l) :
    Calls Try.prog 23 #[sv, .int .i64 x] w fun e w' => e = .returned (.bool (inB l x)) ∧ w = w' := by
  obtain ⟨sa, cap, rfl, hcap, hn, hr⟩ := hr
  unfold maxLen at hn
  rcases hr with rfl | ⟨sb, off, rfl, hb, hc⟩
  · go_enter Try.func23, Try.ntmps23
    go_wp2
    go_loop [5, 6] (fun n i => i = .int .i64 0 ∧ n = .int .i64 0) (fun _ i => 0)
    case atStart => exact ⟨rfl, rfl⟩
    case round =>
      obtain ⟨rfl, rfl⟩ := hrel
      go_wp2
      go_ret
      exact ⟨rfl, rfl⟩
  have Hc := Lib.hid hc
  clear hc
  go_enter Try.func23, Try.ntmps23
  go_wp2
  go_loop [5, 6] (fun n i => ∃ k m : Nat, k ≤ l.length ∧ m ≤ k ∧ i = .int .i64 k ∧ n = .int .i64 m ∧ Hid (decide (0 < m) = inB (l.take k) x)) (fun _ i => l.length - (intOf i).toNat)
  case atStart => exact ⟨0, 0, Nat.zero_le _, Nat.zero_le _, rfl, rfl, by simp [Hid, inB]⟩
  case round =>
    obtain ⟨k, m, hk, hm, rfl, rfl, he⟩ := hrel
    by_cases hlt : k < l.length
    · obtain ⟨h1, h2⟩ := Hc.out k hlt
      obtain ⟨a, b, hab⟩ : ∃ a b, nthR l k = (a, b) := ⟨_, _, rfl⟩
      have hs : inB (l.take (k + 1)) x = (decide (0 < m) || inR (a, b) x) := by
        rw [take_snoc' l k (0, 0) hlt, inB_append, ← he.out, inB_one, show l.getD k (0, 0) = (a, b) from hab]
      rw [hab] at h1 h2
      dsimp only at h1 h2
      clear hab he
      by_cases ha : a ≤ x
      · by_cases hb2 : x ≤ b
        · have Hs : Hid (decide (0 < m + 1) = inB (l.take (k + 1)) x) := by rw [Hid, hs, (inR_iff _ _).2 ⟨ha, hb2⟩]; simp
          clear hs Hc
          go_wp2
          go_round
          case rel => exact ⟨k + 1, m + 1, by omega, by omega, by go_num, by go_num, Hs⟩
          case measure => simp [intOf]; omega
        · have Hs : Hid (decide (0 < m) = inB (l.take (k + 1)) x) := by rw [Hid, hs]; simp [inR, hb2]
          clear hs Hc
          go_wp2
          go_round
          case rel => exact ⟨k + 1, m, by omega, by omega, by go_num, rfl, Hs⟩
          case measure => simp [intOf]; omega
      · have Hs : Hid (decide (0 < m) = inB (l.take (k + 1)) x) := by rw [Hid, hs]; simp [inR, ha]
        clear hs Hc
        go_wp2
        go_round
        case rel => exact ⟨k + 1, m, by omega, by omega, by go_num, rfl, Hs⟩
        case measure => simp [intOf]; omega
    · have Hs : Hid (decide (0 < m) = inB l x) := by rw [List.take_of_length_le (by omega)] at he; exact he
      clear Hc he
      go_wp2
      go_ret
      refine ⟨?_, rfl⟩
      rw [← Hs.out]
      exact congrArg (fun b => Ending.returned (.bool b)) (by simp)

/-! ### the same, one by one -/
def eqL {α : Type} [DecidableEq α] (l m : List α) : Bool := decide (l = m)
theorem eqL_self {α : Type} [DecidableEq α] (l : List α) : eqL l l = true := by simp [eqL]
theorem eqL_len {α : Type} [DecidableEq α] (l m : List α) (h : ¬ l.length = m.length) : eqL l m = false := by
  simp only [eqL, decide_eq_false_iff_not]; intro e; exact h (by rw [e])
theorem eqL_end {α : Type} [DecidableEq α] (l m : List α) (d : α) (hl : l.length = m.length) (h : ∀ j, j < l.length → l.getD j d = m.getD j d) : eqL l m = true := by
  simp only [eqL, decide_eq_true_eq]
  refine List.ext_getElem hl fun i h1 h2 => ?_
  have := h i h1
  rw [List.getD_eq_getElem?_getD, List.getD_eq_getElem?_getD, List.getElem?_eq_getElem h1, List.getElem?_eq_getElem h2] at this
  exact this
theorem eqL_no {α : Type} [DecidableEq α] (l m : List α) (d : α) (k : Nat) (h : ¬ l.getD k d = m.getD k d) : eqL l m = false := by
  simp only [eqL, decide_eq_false_iff_not]; intro e; exact h (by rw [e])

theorem stood_range : Try.prog.stoodInHeld 68 = false := by kernel_rfl
theorem struct_range : Try.prog.underlying 68 = some (.struct (Try.prog.fieldsOf 68)) := by kernel_rfl
theorem neq_range (a b c d : Int) (w : World) : (binOp .neq 68 (.agg #[.int .i64 a, .int .i64 b]) (.agg #[.int .i64 c, .int .i64 d])).run Try.prog w = .ok (.bool (!(a == c && b == d))) w := by
  have u3 := Try.underlying3
  have a3 := Try.isAgg3
  have z3 := Try.sizeOf3
  rw [run_neq_struct, show (10000 : Nat) = 9999 + 1 from rfl, run_equalIn_agg w 9999 68 _ _ struct_range stood_range]
  simp only [Program.fieldsOf, Try.underlying68]
  go_simp
  by_cases h1 : a = c <;> by_cases h2 : b = d <;> simp [h1, h2]

end Go.Proofs.Ytjiilcnbajcdhaa
