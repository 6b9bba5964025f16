/-
  The document's plain answers for cells and ranges: where cells are secret, and ranges tidied. Over this seat's translation; of at most 100000 cells, and ranges that may be by themselves.
-/
import Derived.Test.YtinbankkpbdlbaaStr
import Derived.Test.YtinbankkpbdlbaaRgc
namespace Go.Proofs.Ytinbankkpbdlbaa
open Go.RowKit

theorem info_bool : (Try.prog.info? 4).map (fun i => (i.zero, i.size, i.bytes)) = some (some (.bool false), 1, 1) := by kernel_rfl
/-- A slice of n marks of the call's own, by a function. -/
def mkB (n : Nat) (f : Nat → Bool) : List Value := (List.range n).map fun j => .bool (f j)
def OwnB (w : World) (base g n : Nat) (f : Nat → Bool) : Prop := w.ownsRow base 4 1 (.slice (some ⟨g, 0, none⟩) n n) n (mkB n f)
theorem mkB_get (n : Nat) (f : Nat → Bool) (k : Nat) (h : k < n) : (mkB n f)[k]? = some (.bool (f k)) := by simp [mkB, h]
theorem mkB_set (n : Nat) (f : Nat → Bool) (k : Nat) (x : Bool) : (mkB n f).set k (.bool x) = mkB n (fun j => if j = k then x else f j) := by
  apply List.ext_getElem
  · simp [mkB]
  · intro i h1 h2
    rw [List.getElem_set]
    simp only [mkB, List.getElem_map, List.getElem_range]
    by_cases e : k = i
    · rw [if_pos e, if_pos e.symm]
    · rw [if_neg e, if_neg (Ne.symm e)]
theorem mkB_zero (n : Nat) : (madeCells (Value.bool false).cells (n * 1)).toList = mkB n fun _ => false := by
  apply List.ext_getElem
  · simp [madeCells, mkB]
  · intro i h1 h2
    simp [madeCells, mkB, Value.cells, Nat.mod_one]
theorem OwnB.lt {w : World} {base g n : Nat} {f : Nat → Bool} (h : OwnB w base g n f) : g < w.heap.size ∧ base ≤ g := by
  rcases h.2 with ⟨h0, _⟩ | ⟨g', cap', cur, hv, hb, hg, _⟩
  · cases h0
  · injection hv with h1 h2 h3
    injection h1 with h1
    injection h1 with h1
    subst h1
    exact ⟨(Array.getElem?_eq_some_iff.1 hg).1, hb⟩
theorem OwnB.cellAt {w : World} {base g n : Nat} {f : Nat → Bool} (h : OwnB w base g n f) (k : Nat) (hk : k < n) : w.cell? ⟨g, k, none⟩ = some (.bool (f k)) ∧ w.frozen? ⟨g, k, none⟩ = false :=
  ⟨by rw [World.ownsRow.cellAt h k (by omega)]; exact mkB_get n f k hk, World.ownsRow.frozenAt h k⟩
theorem OwnB.stored {w : World} {base g n : Nat} {f : Nat → Bool} (h : OwnB w base g n f) (k : Nat) (x : Bool) : OwnB (w.setCell ⟨g, k, none⟩ (.bool x)) base g n (fun j => if j = k then x else f j) := by
  have := (World.ownsRow.stored h k (.bool x)).1
  rw [mkB_set] at this
  exact this
theorem OwnB.congr {w : World} {base g n : Nat} {f f' : Nat → Bool} (h : OwnB w base g n f) (he : ∀ j, j < n → f j = f' j) : OwnB w base g n f' := by
  have : mkB n f = mkB n f' := List.map_congr_left fun j hj => by rw [he j (List.mem_range.1 hj)]
  unfold OwnB at h ⊢
  rw [← this]
  exact h
theorem OwnB.rm {w : World} {base g n : Nat} {f : Nat → Bool} (h : OwnB w base g n f) (hn : n ≤ maxLen) : Rm w (.slice (some ⟨g, 0, none⟩) n n) ((List.range n).map f) := by
  refine ⟨_, n, by simp, by simp, hn, .inr ⟨g, 0, rfl, h.lt.1, fun k hk => ?_⟩⟩
  have hk' : k < n := by simpa using hk
  rw [Nat.zero_add, (h.cellAt k hk').1]
  simp [hk']

theorem Marked.congr {m m' : Nat → Bool} {p : List (Int × Int)} {i : Nat} (h : Marked m p i) (he : ∀ j, j < i → m j = m' j) : Marked m' p i :=
  ⟨h.rise, fun x => by
    rw [h.same]
    by_cases e : 0 ≤ x ∧ x < (i : Int)
    · rw [he x.toNat (by omega)]
    · rw [decide_eq_false e, Bool.false_and, Bool.false_and], h.few⟩
theorem range_getD (n : Nat) (f : Nat → Bool) (j : Nat) (h : j < n) : ((List.range n).map f).getD j false = f j := by simp [h]

/-- Where cells are secret, as the document tells. -/
def SecP (l : List (Int × Bool)) (w : World) (e : Ending) (w' : World) : Prop := ∃ v T, e = .returned v ∧ Rg w' v T ∧ Marked (fun j => (nth l j).2) T l.length ∧ Below w.heap.size w w'
set_option maxRecDepth 100000 in
set_option maxHeartbeats 4000000 in
theorem rsecrets_ct (sv : Value) (l : List (Int × Bool)) (w : World) (hr : Rd w sv l) (hN : l.length ≤ 100000) :
    Calls Try.prog 23 #[sv] w (SecP l w) := by
  obtain ⟨i0, hi, hz0, hz1, hz2⟩ := info_parts info_bool
  obtain ⟨sa, cap, rfl, hcap, hm, hr⟩ := hr
  unfold maxLen at hm
  have Hc := Lib.hid hr
  clear hr
  go_enter Try.func23, Try.ntmps23
  go_wp2_with (at_make; refine wpList_make_full _ rfl _ _ _ rfl w.heap.size 4 i0 (.bool false) 1 Try.underlying64 hi hz0 hz1 .i64 .i64 _ _ l.length rfl rfl rfl rfl (by rw [hz2]; omega) (by unfold maxLen; omega) (Nat.le_refl _) ?_; intro w2 hown hgrow)
  rw [mkB_zero] at hown
  have hB2 : Below w.heap.size w w2 := ⟨hgrow.os, hgrow.tape, hgrow.output, hgrow.size, fun k hk => hgrow.block k hk (by simp)⟩
  have hO : OwnB w2 w.heap.size w.heap.size l.length (fun j => decide (j < 0) && (nth l j).2) := OwnB.congr (f := fun _ => false) hown (fun j _ => by simp)
  clear hown hgrow
  obtain ⟨g, hg⟩ : ∃ g, g = w.heap.size := ⟨_, rfl⟩
  have hgw : w.heap.size ≤ g := by omega
  rw [show OwnB w2 w.heap.size w.heap.size l.length (fun j => decide (j < 0) && (nth l j).2) = OwnB w2 w.heap.size g l.length (fun j => decide (j < 0) && (nth l j).2) by rw [hg]] at hO
  rw [show (Value.slice (some ⟨w.heap.size, 0, none⟩) l.length l.length) = .slice (some ⟨g, 0, none⟩) l.length l.length by rw [hg]]
  clear hg
  go_loopw [4] (fun i wr => ∃ (k : Nat), k ≤ l.length ∧ i = .int .i64 k ∧ OwnB wr w.heap.size g l.length (fun j => decide (j < k) && (nth l j).2) ∧ Below w.heap.size w wr) (fun i _ => l.length - (intOf i).toNat)
  case atStart => exact ⟨0, Nat.zero_le _, rfl, hO, hB2⟩
  case round =>
    clear hO hB2
    obtain ⟨k, hk, rfl, hO, hB⟩ := hrel
    by_cases hlt : k < l.length
    · rcases Hc.out with rfl | ⟨b, off, rfl, hb, hc⟩
      · simp at hlt
      obtain ⟨h1, h2⟩ := hc k hlt
      clear hc
      rw [← hB.cell hb] at h1 h2
      obtain ⟨c1, f1⟩ := hO.cellAt k hlt
      have hst := hO.stored k (nth l k).2
      have Hst := Lib.hid (hst.congr (f' := fun j => decide (j < k + 1) && (nth l j).2) (fun j _ => by
        by_cases e : j = k
        · subst e; rw [if_pos rfl]; simp
        · rw [if_neg e, show decide (j < k + 1) = decide (j < k) from decide_eq_decide.2 (by omega)]))
      have HB := Lib.hid (hB.setCell (p := ⟨g, k, none⟩) hgw (.bool (nth l k).2))
      clear hst hO Hc
      generalize (nth l k).2 = s at *
      generalize (nth l k).1 = v at *
      go_wp2
      go_roundw
      case rel => exact ⟨k + 1, by omega, by go_num, Hst.out, HB.out⟩
      case measure => simp [intOf]; omega
    · obtain rfl : k = l.length := by omega
      have hnm : decide (l.length < l.length) = false := decide_eq_false (by omega)
      have hrm := hO.rm (by unfold maxLen; omega)
      have hsc := stretch_ct _ _ wr hrm (by simpa using hN)
      have Hsc := Lib.hid hsc
      clear hO hrm hsc Hc
      go_wp2_with fail
      refine Hsc.out.mono ?_
      rintro e w3 ⟨v, T, rfl, hv, hM, hB3⟩
      have Hv := Lib.hid hv
      rw [List.length_map, List.length_range] at hM
      have HM := Lib.hid (hM.congr (m' := fun j => (nth l j).2) (fun j hj => by rw [range_getD _ _ j hj]; simp [hj]))
      clear hv hM Hsc
      go_wp2
      go_ret
      exact ⟨v, T, rfl, Hv.out, HM.out, hB.next hB3⟩
end Go.Proofs.Ytinbankkpbdlbaa
