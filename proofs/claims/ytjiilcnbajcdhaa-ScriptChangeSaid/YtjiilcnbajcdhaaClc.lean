/-
  Contracts of slices.Clone at cells, and of package cells' Store: the cells that come back are new ones. Over this seat's translation; of at most 100000 cells.
-/
import Derived.Test.YtjiilcnbajcdhaaClb
import Derived.Test.YtjiilcnbajcdhaaApp
namespace Go.Proofs.Ytjiilcnbajcdhaa
open Go.RowKit

theorem Own.mono {w : World} {base base' g cap : Nat} {l : List (Int × Bool)} (h : Own w base g cap l) (hb : base' ≤ base) : Own w base' g cap l := by
  rcases h.2 with ⟨h0, _⟩ | ⟨g', cap', cur, hv, hb', r⟩
  · cases h0
  · exact ⟨h.1, .inr ⟨g', cap', cur, hv, Nat.le_trans hb hb', r⟩⟩
theorem flat_set : ∀ (l : List (Int × Bool)) (k : Nat) (v : Int) (s : Bool), k < l.length → ((flat l).set (k * 2) (.int .u8 v)).set (k * 2 + 1) (.bool s) = flat (l.set k (v, s))
  | [], k, _, _, h => by simp at h
  | p :: l, 0, v, s, _ => rfl
  | p :: l, k + 1, v, s, h => by
    have e1 : (k + 1) * 2 = k * 2 + 1 + 1 := by omega
    rw [e1]
    simp only [flat, List.set_cons_succ]
    rw [flat_set l k v s (by simpa using h)]
/-- A cell is stored. -/
theorem Own.stored {w : World} {base g cap : Nat} {l : List (Int × Bool)} (h : Own w base g cap l) (k : Nat) (v : Int) (s : Bool) (hk : k < l.length) :
    Own ((w.setCell ⟨g, k * 2, none⟩ (.int .u8 v)).setCell ⟨g, k * 2 + 1, none⟩ (.bool s)) base g cap (l.set k (v, s)) := by
  have h1 := (World.ownsRow.stored h (k * 2) (.int .u8 v)).1
  have h2 := (World.ownsRow.stored h1 (k * 2 + 1) (.bool s)).1
  unfold Own
  rw [List.length_set, ← flat_set l k v s hk]
  exact h2
theorem Own.cellAt {w : World} {base g cap : Nat} {l : List (Int × Bool)} (h : Own w base g cap l) (k : Nat) (hk : k < l.length) :
    w.cell? ⟨g, k * 2, none⟩ = some (.int .u8 (nth l k).1) ∧ w.cell? ⟨g, k * 2 + 1, none⟩ = some (.bool (nth l k).2) ∧ w.frozen? ⟨g, k * 2, none⟩ = false ∧ w.frozen? ⟨g, k * 2 + 1, none⟩ = false := by
  obtain ⟨e1, e2⟩ := flat_get l k hk
  exact ⟨by rw [World.ownsRow.cellAt h _ (by omega)]; exact e1, by rw [World.ownsRow.cellAt h _ (by omega)]; exact e2, World.ownsRow.frozenAt h _, World.ownsRow.frozenAt h _⟩

/-- What Clone hands back: cells of its own, or nil. -/
def CloneP (l : List (Int × Bool)) (w : World) (e : Ending) (w' : World) : Prop :=
  Below w.heap.size w w' ∧ ((∃ g cap, e = .returned (.slice (some ⟨g, 0, none⟩) l.length cap) ∧ Own w' w.heap.size g cap l) ∨ (e = .returned (.slice none 0 0) ∧ l = []))
/-- What Store hands back. -/
def StoreP (l : List (Int × Bool)) (x : Int) (w : World) (e : Ending) (w' : World) : Prop := ∃ v, e = .returned (.tuple #[v, .int .i64 x]) ∧ Rd w' v l ∧ Below w.heap.size w w'
theorem nth_set_len (l : List (Int × Bool)) (k : Nat) (p : Int × Bool) : (l.set k p).length = l.length := List.length_set
end Go.Proofs.Ytjiilcnbajcdhaa
