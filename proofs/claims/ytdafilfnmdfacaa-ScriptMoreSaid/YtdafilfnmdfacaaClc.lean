/-
  Contracts of slices.Clone at cells, and of package cells' Store: the cells that come back are new ones. Over this seat's translation; of at most 100000 cells.
-/
import Derived.Test.YtdafilfnmdfacaaClb
import Derived.Test.YtdafilfnmdfacaaApp
namespace Go.Proofs.Ytdafilfnmdfacaa
open Go.RowKit

theorem flat_set : ∀ (l : List (Int × Bool)) (k : Nat) (v : Int) (s : Bool), k < l.length → ((flat l).set (k * 2) (.int .u8 v)).set (k * 2 + 1) (.bool s) = flat (l.set k (v, s))
  | [], k, _, _, h => by simp at h
  | p :: l, 0, v, s, _ => rfl
  | p :: l, k + 1, v, s, h => by
    have e1 : (k + 1) * 2 = k * 2 + 1 + 1 := by omega
    rw [e1]
    simp only [flat, List.set_cons_succ]
    rw [flat_set l k v s (by simpa using h)]
/-- What Store hands back. -/
def StoreP (l : List (Int × Bool)) (x : Int) (w : World) (e : Ending) (w' : World) : Prop := ∃ v, e = .returned (.tuple #[v, .int .i64 x]) ∧ Rd w' v l ∧ Below w.heap.size w w'
theorem nth_set_len (l : List (Int × Bool)) (k : Nat) (p : Int × Bool) : (l.set k p).length = l.length := List.length_set
end Go.Proofs.Ytdafilfnmdfacaa
