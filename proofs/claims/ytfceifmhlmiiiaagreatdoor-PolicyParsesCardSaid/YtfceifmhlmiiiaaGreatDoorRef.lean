/-
  The document's plain answers for cells and ranges: where cells are secret, and ranges tidied. Over this seat's translation; of at most 100000 cells, and ranges that may be by themselves.
-/
import Derived.Test.YtfceifmhlmiiiaaGreatDoorStr
import Derived.Test.YtfceifmhlmiiiaaGreatDoorRgc
namespace Go.Proofs.YtfceifmhlmiiiaaGreatDoor
open Go.RowKit

theorem info_bool : (Tryz.prog.info? 4).map (fun i => (i.zero, i.size, i.bytes)) = some (some (.bool false), 1, 1) := by kernel_rfl
/-- A slice of n marks of the call's own, by a function. -/
def mkB (n : Nat) (f : Nat → Bool) : List Value := (List.range n).map fun j => .bool (f j)
def OwnB (w : World) (base g n : Nat) (f : Nat → Bool) : Prop := w.ownsRow base 4 1 (.slice (some ⟨g, 0, none⟩) n n) n (mkB n f)
theorem mkB_get (n : Nat) (f : Nat → Bool) (k : Nat) (h : k < n) : (mkB n f)[k]? = some (.bool (f k)) := by simp [mkB, h]
theorem mkB_set (n : Nat) (f : Nat → Bool) (k : Nat) (x : Bool) : (mkB n f).set k (.bool x) = mkB n (fun j => if j = k then x else f j) := by
  apply List.ext_getElem
  · simp [mkB]
  · intro i h1 h2
    rw [List.getElem_set]
    simp only [mkB, List.getElem_map, List.getElem_range]
    by_cases e : k = i
    · rw [if_pos e, if_pos e.symm]
    · rw [if_neg e, if_neg (Ne.symm e)]
theorem mkB_zero (n : Nat) : (madeCells (Value.bool false).cells (n * 1)).toList = mkB n fun _ => false := by
  apply List.ext_getElem
  · simp [madeCells, mkB]
  · intro i h1 h2
    simp [madeCells, mkB, Value.cells, Nat.mod_one]
theorem OwnB.lt {w : World} {base g n : Nat} {f : Nat → Bool} (h : OwnB w base g n f) : g < w.heap.size ∧ base ≤ g := by
  rcases h.2 with ⟨h0, _⟩ | ⟨g', cap', cur, hv, hb, hg, _⟩
  · cases h0
  · injection hv with h1 h2 h3
    injection h1 with h1
    injection h1 with h1
    subst h1
    exact ⟨(Array.getElem?_eq_some_iff.1 hg).1, hb⟩
theorem OwnB.cellAt {w : World} {base g n : Nat} {f : Nat → Bool} (h : OwnB w base g n f) (k : Nat) (hk : k < n) : w.cell? ⟨g, k, none⟩ = some (.bool (f k)) ∧ w.frozen? ⟨g, k, none⟩ = false :=
  ⟨by rw [World.ownsRow.cellAt h k (by omega)]; exact mkB_get n f k hk, World.ownsRow.frozenAt h k⟩
theorem OwnB.stored {w : World} {base g n : Nat} {f : Nat → Bool} (h : OwnB w base g n f) (k : Nat) (x : Bool) : OwnB (w.setCell ⟨g, k, none⟩ (.bool x)) base g n (fun j => if j = k then x else f j) := by
  have := (World.ownsRow.stored h k (.bool x)).1
  rw [mkB_set] at this
  exact this
theorem OwnB.congr {w : World} {base g n : Nat} {f f' : Nat → Bool} (h : OwnB w base g n f) (he : ∀ j, j < n → f j = f' j) : OwnB w base g n f' := by
  have : mkB n f = mkB n f' := List.map_congr_left fun j hj => by rw [he j (List.mem_range.1 hj)]
  unfold OwnB at h ⊢
  rw [← this]
  exact h
theorem OwnB.rm {w : World} {base g n : Nat} {f : Nat → Bool} (h : OwnB w base g n f) (hn : n ≤ maxLen) : Rm w (.slice (some ⟨g, 0, none⟩) n n) ((List.range n).map f) := by
  refine ⟨_, n, by simp, by simp, hn, .inr ⟨g, 0, rfl, h.lt.1, fun k hk => ?_⟩⟩
  have hk' : k < n := by simpa using hk
  rw [Nat.zero_add, (h.cellAt k hk').1]
  simp [hk']

theorem Marked.congr {m m' : Nat → Bool} {p : List (Int × Int)} {i : Nat} (h : Marked m p i) (he : ∀ j, j < i → m j = m' j) : Marked m' p i :=
  ⟨h.rise, fun x => by
    rw [h.same]
    by_cases e : 0 ≤ x ∧ x < (i : Int)
    · rw [he x.toNat (by omega)]
    · rw [decide_eq_false e, Bool.false_and, Bool.false_and], h.few⟩
theorem range_getD (n : Nat) (f : Nat → Bool) (j : Nat) (h : j < n) : ((List.range n).map f).getD j false = f j := by simp [h]

/-- Where cells are secret, as the document tells. -/
def SecP (l : List (Int × Bool)) (w : World) (e : Ending) (w' : World) : Prop := ∃ v T, e = .returned v ∧ Rg w' v T ∧ Marked (fun j => (nth l j).2) T l.length ∧ Below w.heap.size w w'
end Go.Proofs.YtfceifmhlmiiiaaGreatDoor
