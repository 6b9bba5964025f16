/-
  slices.AppendSeq, and slices.Collect, at ranges, against whatever iterator that hands them out one by one and reads memory: what comes back owns what came. Over this seat's translation; of at most 100000 ranges.
-/
import Derived.RangeFuncNested
import Derived.RangeFuncBound
import Derived.RangeFuncCalls
import Derived.RangeFuncLeaves
import Derived.RangeFuncBox
import Derived.Shelf.Abstract
import Derived.Shelf.RegionOpen
import Derived.WalkKit
import Derived.OwnWalkIn
import Derived.TacticsInMore
import Derived.LoopNIn
import Derived.LoopIn
import Derived.Maps.AppendAt
import Derived.Test.YtdafilfnmdfacaaRgb
namespace Go.Proofs.Ytdafilfnmdfacaa
open Go.RowKit Go.Shelf
attribute [local go_sem] Oper.semAt_some

/-- A list of ranges, cell by cell. -/
def flatR : List (Int × Int) → List Value
  | [] => []
  | p :: r => .int .i64 p.1 :: .int .i64 p.2 :: flatR r
theorem flatR_length (l : List (Int × Int)) : (flatR l).length = l.length * 2 := by
  induction l with
  | nil => rfl
  | cons p r ih => simp only [flatR, List.length_cons, ih]; omega
theorem flatR_append (l m : List (Int × Int)) : flatR (l ++ m) = flatR l ++ flatR m := by
  induction l with
  | nil => rfl
  | cons p r ih => simp [flatR, ih]
theorem flatR_one (l : List (Int × Int)) : ∀ u ∈ flatR l, u.oneCell' = true := by
  induction l with
  | nil => intro u hu; cases hu
  | cons p r ih =>
    intro u hu
    simp only [flatR, List.mem_cons] at hu
    rcases hu with rfl | rfl | hu
    · rfl
    · rfl
    · exact ih u hu
theorem flatR_get (l : List (Int × Int)) : ∀ k, k < l.length → (flatR l)[k * 2]? = some (.int .i64 (nthR l k).1) ∧ (flatR l)[k * 2 + 1]? = some (.int .i64 (nthR l k).2) := by
  induction l with
  | nil => intro k hk; simp at hk
  | cons p r ih =>
    intro k hk
    cases k with
    | zero => simp [flatR, nthR]
    | succ k =>
      have e1 : (k + 1) * 2 = k * 2 + 1 + 1 := by omega
      have e2 : (k + 1) * 2 + 1 = k * 2 + 1 + 1 + 1 := by omega
      have e3 : nthR (p :: r) (k + 1) = nthR r k := by simp [nthR]
      rw [e2, e1, flatR, e3, List.getElem?_cons_succ, List.getElem?_cons_succ, List.getElem?_cons_succ, List.getElem?_cons_succ]
      exact ih k (by simpa using hk)

/-- A slice value that owns ranges, nil just where there is none. -/
def OwnR (w : World) (base : Nat) (v : Value) (l : List (Int × Int)) : Prop := w.ownsRow base 52 2 v l.length (flatR l) ∧ (v = .slice none 0 0 ↔ l = [])
theorem OwnR.rg {w : World} {base : Nat} {v : Value} {l : List (Int × Int)} (h : OwnR w base v l) : Rg w v l := by
  obtain ⟨ho, hn⟩ := h
  rcases ho.2 with ⟨rfl, h0⟩ | ⟨g, cap, cur, rfl, hb, hg, hnc, hm, hs, ht⟩
  · obtain rfl := hn.1 rfl
    exact rg0 w
  · refine ⟨_, _, rfl, hnc, hm, .inr ⟨g, 0, rfl, (Array.getElem?_eq_some_iff.1 hg).1, fun k hk => ?_⟩⟩
    obtain ⟨e1, e2⟩ := flatR_get l k hk
    rw [Nat.zero_add, World.ownsRow.cellAt ho (k * 2) (by omega), World.ownsRow.cellAt ho (k * 2 + 1) (by omega)]
    exact ⟨e1, e2⟩

/-- A block of cells lies as it lay wherever no cells have turned. -/
theorem block_own {β : Type} (B : Nat) (o : β → Obj) (ho : ∀ s, (o s).isCells = true) : Go.Own (fun (s : β) W => W.heap[B]? = some (o s)) := fun s X Y row hs hg hrow => by
  refine (hg.block B (Array.getElem?_eq_some_iff.1 hs).1 (fun e => ?_)).trans hs
  obtain ⟨o', h1, h2⟩ := hrow B e.symm
  rw [hs] at h1
  injection h1 with h1
  rw [← h1, ho] at h2
  cases h2
/-- Block B holds one range. -/
def BoxR (W : World) (B : Nat) (x : Int × Int) : Prop := W.heap[B]? = some (.cells #[.int .i64 x.1, .int .i64 x.2] 52 (0, 0))
theorem BoxR.new (W : World) (x : Int × Int) : BoxR (W.alloc (.cells #[.int .i64 x.1, .int .i64 x.2] 52)) W.heap.size x := World.alloc_heap_new W _
theorem BoxR.cell {W : World} {B : Nat} {x : Int × Int} (h : BoxR W B x) : W.cell? ⟨B, 0, none⟩ = some (.int .i64 x.1) ∧ W.cell? ⟨B, 1, none⟩ = some (.int .i64 x.2) := by
  constructor <;> simp [World.cell?, show W.heap[B]? = _ from h]
theorem cell_two_new (w : World) (x y : Value) (t : TypeId) : ∀ j u, [x, y][j]? = some u → (w.alloc (.cells #[x, y] t)).cell? ((⟨w.heap.size, 0, none⟩ : Addr).add j) = some u := by
  intro j u hj
  match j, hj with
  | 0, hj =>
    simp at hj
    subst hj
    simp [Addr.add]
  | 1, hj =>
    simp at hj
    subst hj
    simp [Addr.add]
  | j + 2, hj => simp at hj
abbrev encR (x : Int × Int) : Array Value := #[.agg #[.int .i64 x.1, .int .i64 x.2]]
theorem info_range : (Try.prog.info? 52).map (fun i => (i.zero, i.size, i.bytes)) = some (some (.agg #[.int .i64 0, .int .i64 0]), 2, 16) := by kernel_rfl

end Go.Proofs.Ytdafilfnmdfacaa
