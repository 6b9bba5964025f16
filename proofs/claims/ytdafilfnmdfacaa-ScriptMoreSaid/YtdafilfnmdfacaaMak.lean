/-
  Package cells' Make. Over this seat's translation; of at most 100000 values.
-/
import Derived.Test.YtdafilfnmdfacaaAmo
import Derived.Test.YtdafilfnmdfacaaClc
import Derived.Test.YtdafilfnmdfacaaTal
namespace Go.Proofs.Ytdafilfnmdfacaa
open Go.RowKit Go.Shelf
attribute [local go_sem] Oper.semAt_some

def MakeNo (w : World) (e : Ending) (w' : World) : Prop := e = .returned (.tuple #[.slice none 0 0, .int .i64 1]) ∧ Below w.heap.size w w'
/-- The value at a place, 0 behind the last one. -/
def byteAt (s : ByteArray) (j : Nat) : Int := if h : j < s.size then ((s[j]'h).toNat : Int) else 0
def mkF (n : Nat) (f : Nat → Int × Bool) : List (Int × Bool) := (List.range n).map f
theorem mkF_length (n : Nat) (f : Nat → Int × Bool) : (mkF n f).length = n := by simp [mkF]
theorem mkF_set (n : Nat) (f : Nat → Int × Bool) (k : Nat) (x : Int × Bool) : (mkF n f).set k x = mkF n (fun j => if j = k then x else f j) := by
  apply List.ext_getElem
  · simp [mkF]
  · intro i h1 h2
    simp only [mkF, List.length_map, List.length_range] at h2
    rw [List.getElem_set]
    simp only [mkF, List.getElem_map, List.getElem_range]
    by_cases e : k = i
    · rw [if_pos e, if_pos e.symm]
    · rw [if_neg e, if_neg (Ne.symm e)]
theorem mkF_congr (n : Nat) (f g : Nat → Int × Bool) (h : ∀ j, j < n → f j = g j) : mkF n f = mkF n g := by
  unfold mkF
  exact List.map_congr_left fun j hj => h j (List.mem_range.1 hj)
theorem mkF_nth (n : Nat) (f : Nat → Int × Bool) (k : Nat) (h : k < n) : nth (mkF n f) k = f k := by
  unfold nth mkF
  rw [List.getD_eq_getElem?_getD]
  simp [h]
/-- The cells that Make makes. -/
def mkL (n : Nat) (s : ByteArray) (d : List (Int × Int)) : List (Int × Bool) := mkF n fun j => (byteAt s j, inB d j)
theorem flat_zero (n : Nat) : (madeCells (Value.agg #[.int .u8 0, .bool false]).cells (n * 2)).toList = flat (mkF n fun _ => (0, false)) := by
  apply List.ext_getElem?
  intro j
  by_cases hj : j < n * 2
  · have hk : j / 2 < (mkF n fun _ => ((0 : Int), false)).length := by rw [mkF_length]; omega
    obtain ⟨h1, h2⟩ := flat_get (mkF n fun _ => ((0 : Int), false)) (j / 2) hk
    rw [mkF_nth _ _ _ (by omega)] at h1 h2
    have e : (madeCells (Value.agg #[.int .u8 0, .bool false]).cells (n * 2)).toList[j]? = some ((#[Value.int .u8 0, Value.bool false])[j % 2]!) := by
      simp [madeCells, Value.cells, hj]
    rw [e]
    rcases Nat.mod_two_eq_zero_or_one j with ej | ej
    · rw [ej, show j = j / 2 * 2 by omega, h1]; rfl
    · rw [ej, show j = j / 2 * 2 + 1 by omega, h2]; rfl
  · rw [List.getElem?_eq_none (by rw [Array.length_toList, size_madeCells]; omega), List.getElem?_eq_none (by rw [flat_length, mkF_length]; omega)]

theorem Boxed.below {W W' : World} {B : Nat} {t : TypeId} {v : Value} (h : Boxed W B t v) (hb : Below W.heap.size W W') : Boxed W' B t v := (hb.block B h.lt).trans h
theorem Boxed.far {W : World} {B : Nat} {t : TypeId} {v : Value} (h : Boxed W B t v) {g : Nat} (o : Nat) (u : Value) (hne : B ≠ g) : Boxed (W.setCell ⟨g, o, none⟩ u) B t v := (Below.heap_setCell W ⟨g, o, none⟩ u B (fun e => hne (by simpa using e))).trans h
def upTo (s : ByteArray) (k j : Nat) : Int × Bool := (if j < k then byteAt s j else 0, false)

theorem ownsRow_own {β : Type} (base : Nat) (e : TypeId) (size : Nat) (v : β → Value) (k : β → Nat) (f : β → List Value) : Go.Own (fun s W => W.ownsRow base e size (v s) (k s) (f s)) := by
  rintro s X Y row hr hg hrow
  refine hr.kept hg ?_
  rcases hr.2 with ⟨h0, _⟩ | ⟨g, cap, cur, h0, _, hgb, _⟩
  · rw [h0]; exact .inl rfl
  · rw [h0]
    refine .inr fun e' => ?_
    obtain ⟨o, ho, hc⟩ := hrow g (by simpa [Value.ownBlock] using e'.symm)
    rw [hgb] at ho; cases ho; cases hc
theorem sizeFrom {β : Type} (B k : Nat) : OwnFrom B (fun (_ : β) W => k ≤ W.heap.size) := fun _ _ _ _ hs hg _ => Nat.le_trans hs hg.size
theorem keep_b {n₀ g : Nat} {w : World} (hn : n₀ ≤ w.heap.size) (W : World) (l : Nat) (o o' : Obj) (hl : w.heap.size ≤ l) (_ : W.heap[l]? = some o) (_ : o.isCells = false) (_ : o.isWalk = false) : Keep n₀ g W (W.putObj l o') :=
  ⟨(grownBy_putObj' W l o').size, fun b hb _ => World.putObj_heap_other (fun e => by omega)⟩
theorem keepsFrom_below {B : Nat} {A W : World} (h : Below A.heap.size A W) : KeepsFrom B A W := ⟨h.size, fun k _ _ h0 _ => (h.block k (Array.getElem?_eq_some_iff.1 h0).1).trans h0⟩
theorem Keep.set {n₀ g : Nat} {A B : World} (h : Keep n₀ g A B) (o : Nat) (u : Value) : Keep n₀ g A (B.setCell ⟨g, o, none⟩ u) :=
  ⟨by simpa using h.1, fun b hb hg => (Below.heap_setCell B ⟨g, o, none⟩ u b (fun e => hg (by simpa using e))).trans (h.2 b hb hg)⟩
theorem BoxR.below {W W' : World} {B : Nat} {x : Int × Int} (h : BoxR W B x) (hb : Below W.heap.size W W') : BoxR W' B x := (hb.block B h.lt).trans h
theorem BoxR.far {W : World} {B : Nat} {x : Int × Int} (h : BoxR W B x) {g : Nat} (o : Nat) (u : Value) (hne : B ≠ g) : BoxR (W.setCell ⟨g, o, none⟩ u) B x := (Below.heap_setCell W ⟨g, o, none⟩ u B (fun e => hne (by simpa using e))).trans h
/-- The cells when these ranges have come; and when, besides, the places from a on, below k, are done. -/
def cellsF (s : ByteArray) (l : List (Int × Int)) (j : Nat) : Int × Bool := (byteAt s j, inB l j)
def stepF (s : ByteArray) (l : List (Int × Int)) (a k j : Nat) : Int × Bool := (byteAt s j, inB l j || (decide (a ≤ j) && decide (j < k)))
theorem stepF_start (s : ByteArray) (l : List (Int × Int)) (a j : Nat) : cellsF s l j = stepF s l a a j := by
  unfold cellsF stepF
  have : (decide (a ≤ j) && decide (j < a)) = false := by simp
  rw [this, Bool.or_false]
theorem stepF_next (s : ByteArray) (l : List (Int × Int)) (a k j : Nat) (hk : a ≤ k) : (if j = k then (byteAt s k, true) else stepF s l a k j) = stepF s l a (k + 1) j := by
  unfold stepF
  by_cases e : j = k
  · subst e; rw [if_pos rfl]; simp [hk]
  · rw [if_neg e]
    have : decide (j < k + 1) = decide (j < k) := decide_eq_decide.2 (by omega)
    rw [this]
theorem stepF_end (s : ByteArray) (l : List (Int × Int)) (a b j : Nat) : stepF s l a (b + 1) j = cellsF s (l ++ [((a : Int), (b : Int))]) j := by
  unfold cellsF stepF
  rw [inB_append, inB_one]
  congr 2
  unfold inR
  congr 1 <;> (apply decide_eq_decide.2; omega)

def MakeYes (n : Nat) (s : ByteArray) (d : List (Int × Int)) (w : World) (e : Ending) (w' : World) : Prop := ∃ v, e = .returned (.tuple #[v, .int .i64 0]) ∧ Rd w' v (mkL n s d) ∧ Below w.heap.size w w'
end Go.Proofs.Ytdafilfnmdfacaa
