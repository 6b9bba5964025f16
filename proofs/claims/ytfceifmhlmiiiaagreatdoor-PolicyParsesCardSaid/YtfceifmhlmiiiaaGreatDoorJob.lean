/-
  What the document's Join knows between the operations of its first statement, whatever the order. Over this seat's translation.
-/
import Derived.Test.YtfceifmhlmiiiaaGreatDoorJoa
namespace Go.Proofs.YtfceifmhlmiiiaaGreatDoor
open Go.RowKit
set_option linter.unusedSimpArgs false
set_option linter.unusedVariables false

/-- What is not known ahead: the rows' values, the ranges tidied, the number of the variable. -/
structure JB where
  r0 : Value
  r8 : Value
  r1 : Value
  r2 : Value
  r3 : Value
  r4 : Value
  r5 : Value
  r6 : Value
  TA : List (Int × Int)
  TB : List (Int × Int)
  q : Nat
def polZ : Array Value := #[.bool false, .bool false, .slice none 0 0, .slice none 0 0]
def polJ (b : JB) : Array Value := #[.bool false, .bool false, b.r3, b.r6]
structure JW (B : Nat) (wS : World) (la lb lc ld : List (Int × Int)) (D : Nat → Bool) (b : JB) (w : World) : Prop where
  below : Below B wS w
  hB : B ≤ w.heap.size
  o6 : D 6 = true → D 3 = true
  o7 : D 7 = true → D 6 = true
  o11 : D 11 = true → D 7 = true
  o14 : D 14 = true → D 11 = true
  o15 : D 15 = true → D 14 = true
  o18 : D 18 = true → D 15 = true
  o17 : D 18 = true → D 17 = true
  o16 : D 16 = true → D 7 = true ∧ D 15 = true
  f0 : D 0 = true → D 3 = false → Zs B w b.r0
  f8 : D 8 = true → D 11 = false → Zs B w b.r8
  f3 : D 3 = true → D 6 = false → (la = [] ∧ Zs B w b.r1) ∨ (la ≠ [] ∧ RowJ B w b.r1 la)
  f6 : D 6 = true → D 7 = false → Rg w b.r2 (la ++ lb)
  f7 : D 7 = true → Rg w b.r3 b.TA ∧ Tidied (la ++ lb) b.TA
  f11 : D 11 = true → D 14 = false → (lc = [] ∧ Zs B w b.r4) ∨ (lc ≠ [] ∧ RowJ B w b.r4 lc ∧ ∀ w', w.grownBy w' b.r4.ownBlock → Rg w' b.r3 b.TA)
  f14 : D 14 = true → D 15 = false → Rg w b.r5 (lc ++ ld)
  f15 : D 15 = true → Rg w b.r6 b.TB ∧ Tidied (lc ++ ld) b.TB
  f17 : D 17 = true → B ≤ b.q ∧ (D 18 = false → w.heap[b.q]? = some (.cells polZ 25 (0, 0))) ∧ (D 18 = true → ∃ T, w.heap[b.q]? = some (.cells (polJ b) T (0, 0)))
section
variable {B : Nat} {wS w w2 : World} {la lb lc ld : List (Int × Int)} {D : Nat → Bool} {b : JB} {v : Value}
theorem JW.next (h : JW B wS la lb lc ld D b w) (hb : Below w.heap.size w w2) : JW B wS la lb lc ld D b w2 := by
  obtain ⟨below, hB, o6, o7, o11, o14, o15, o18, o17, o16, f0, f8, f3, f6, f7, f11, f14, f15, f17⟩ := h
  refine ⟨below.trans (hb.mono hB), Nat.le_trans hB hb.size, o6, o7, o11, o14, o15, o18, o17, o16, fun x y => (f0 x y).next hb, fun x y => (f8 x y).next hb, fun x y => ?_, fun x y => (f6 x y).below hb, fun x => ⟨(f7 x).1.below hb, (f7 x).2⟩, fun x y => ?_, fun x y => (f14 x y).below hb, fun x => ⟨(f15 x).1.below hb, (f15 x).2⟩, fun x => ?_⟩
  · rcases f3 x y with ⟨e, z⟩ | ⟨e, z⟩
    · exact .inl ⟨e, z.next hb⟩
    · exact .inr ⟨e, z.next hb⟩
  · rcases f11 x y with ⟨e, z⟩ | ⟨e, z, z2⟩
    · exact .inl ⟨e, z.next hb⟩
    · exact .inr ⟨e, z.next hb, fun w' hg => z2 w' ⟨hg.os.trans hb.os, hg.tape.trans hb.tape, hg.output.trans hb.output, Nat.le_trans hb.size hg.size, fun k hk hn => (hg.block k (Nat.lt_of_lt_of_le hk hb.size) hn).trans (hb.block k hk)⟩⟩
  · obtain ⟨q0, q1, q2⟩ := f17 x
    refine ⟨q0, fun y => ?_, fun y => ?_⟩
    · have := q1 y
      rw [hb.block _ (Array.getElem?_eq_some_iff.1 this).1]; exact this
    · obtain ⟨T, this⟩ := q2 y
      exact ⟨T, by rw [hb.block _ (Array.getElem?_eq_some_iff.1 this).1]; exact this⟩
theorem JW.start (w : World) : JW w.heap.size w la lb lc ld (fun _ => false) ⟨.bool false, .bool false, .bool false, .bool false, .bool false, .bool false, .bool false, .bool false, [], [], 0⟩ { w with drawn := w.drawn + 1 } := by
  refine ⟨(Below.refl _ w).drew, Nat.le_refl _, ?_, ?_, ?_, ?_, ?_, ?_, ?_, ?_, ?_, ?_, ?_, ?_, ?_, ?_, ?_, ?_, ?_⟩ <;> intro x <;> cases x
/-- An operation that only gives a value. -/
theorem JW.keep (h : JW B wS la lb lc ld D b w) {k : Nat} (hk : [0, 3, 6, 7, 8, 11, 14, 15, 16, 17, 18].contains k = false) : JW B wS la lb lc ld (fun j => D j || j == k) b w := by
  have e : ∀ s, [0, 3, 6, 7, 8, 11, 14, 15, 16, 17, 18].contains s = true → (D s || s == k) = D s := fun s hs => by
    have : s ≠ k := fun e => by subst e; rw [hs] at hk; cases hk
    simp [this]
  obtain ⟨below, hB, o6, o7, o11, o14, o15, o18, o17, o16, f0, f8, f3, f6, f7, f11, f14, f15, f17⟩ := h
  constructor
  · exact below
  · exact hB
  all_goals
    simp only [e 0 (by decide), e 3 (by decide), e 6 (by decide), e 7 (by decide), e 8 (by decide), e 11 (by decide), e 14 (by decide), e 15 (by decide), e 16 (by decide), e 17 (by decide), e 18 (by decide)]
    assumption
theorem JW.op16 (h : JW B wS la lb lc ld D b w) (h7 : D 7 = true) (h15 : D 15 = true) : JW B wS la lb lc ld (fun j => D j || j == 16) b w := by
  obtain ⟨below, hB, o6, o7, o11, o14, o15, o18, o17, o16, f0, f8, f3, f6, f7, f11, f14, f15, f17⟩ := h
  exact ⟨below, hB, by simpa using o6, by simpa using o7, by simpa using o11, by simpa using o14, by simpa using o15, by simpa using o18, by simpa using o17, by simp [h7, h15], by simpa using f0, by simpa using f8, by simpa using f3, by simpa using f6, by simpa using f7, by simpa using f11, by simpa using f14, by simpa using f15, by simpa [polJ] using f17⟩
theorem JW.op0 (h0 : JW B wS la lb lc ld D b w) (hb : Below w.heap.size w w2) (hz : Zs B w2 v) : JW B wS la lb lc ld (fun j => D j || j == 0) { b with r0 := v } w2 := by
  obtain ⟨below, hB, o6, o7, o11, o14, o15, o18, o17, o16, f0, f8, f3, f6, f7, f11, f14, f15, f17⟩ := h0.next hb
  exact ⟨below, hB, by simpa using o6, by simpa using o7, by simpa using o11, by simpa using o14, by simpa using o15, by simpa using o18, by simpa using o17, fun h => by have := o16 (by simpa using h); simp [this.1, this.2], fun _ _ => hz, by simpa using f8, by simpa using f3, by simpa using f6, by simpa using f7, by simpa using f11, by simpa using f14, by simpa using f15, by simpa [polJ] using f17⟩
theorem JW.op8 (h0 : JW B wS la lb lc ld D b w) (hb : Below w.heap.size w w2) (hz : Zs B w2 v) : JW B wS la lb lc ld (fun j => D j || j == 8) { b with r8 := v } w2 := by
  obtain ⟨below, hB, o6, o7, o11, o14, o15, o18, o17, o16, f0, f8, f3, f6, f7, f11, f14, f15, f17⟩ := h0.next hb
  exact ⟨below, hB, by simpa using o6, by simpa using o7, by simpa using o11, by simpa using o14, by simpa using o15, by simpa using o18, by simpa using o17, fun h => by have := o16 (by simpa using h); simp [this.1, this.2], by simpa using f0, fun _ _ => hz, by simpa using f3, by simpa using f6, by simpa using f7, by simpa using f11, by simpa using f14, by simpa using f15, by simpa [polJ] using f17⟩
theorem JW.op3 (h0 : JW B wS la lb lc ld D b w) (hb : Below w.heap.size w w2) (hz : (la = [] ∧ Zs B w2 v) ∨ (la ≠ [] ∧ RowJ B w2 v la)) : JW B wS la lb lc ld (fun j => D j || j == 3) { b with r1 := v } w2 := by
  obtain ⟨below, hB, o6, o7, o11, o14, o15, o18, o17, o16, f0, f8, f3, f6, f7, f11, f14, f15, f17⟩ := h0.next hb
  exact ⟨below, hB, by simp, by simpa using o7, by simpa using o11, by simpa using o14, by simpa using o15, by simpa using o18, by simpa using o17, fun h => by have := o16 (by simpa using h); simp [this.1, this.2], by simp, by simpa using f8, fun _ _ => hz, by simpa using f6, by simpa using f7, by simpa using f11, by simpa using f14, by simpa using f15, by simpa [polJ] using f17⟩
theorem JW.op7 (h0 : JW B wS la lb lc ld D b w) (hb : Below w.heap.size w w2) (h6 : D 6 = true) (h7 : D 7 = false) {T : List (Int × Int)} (hz : Rg w2 v T ∧ Tidied (la ++ lb) T) : JW B wS la lb lc ld (fun j => D j || j == 7) { b with r3 := v, TA := T } w2 := by
  obtain ⟨below, hB, o6, o7, o11, o14, o15, o18, o17, o16, f0, f8, f3, f6, f7, f11, f14, f15, f17⟩ := h0.next hb
  have n11 : D 11 = false := Bool.eq_false_iff.2 fun h => by rw [o11 h] at h7; cases h7
  have n14 : D 14 = false := Bool.eq_false_iff.2 fun h => by rw [o14 h] at n11; cases n11
  have n15 : D 15 = false := Bool.eq_false_iff.2 fun h => by rw [o15 h] at n14; cases n14
  have n18 : D 18 = false := Bool.eq_false_iff.2 fun h => by rw [o18 h] at n15; cases n15
  refine ⟨below, hB, by simpa using o6, by simp [h6], by simp, by simpa using o14, by simpa using o15, by simpa using o18, by simpa using o17, fun h => by have := o16 (by simpa using h); simp [this.1, this.2], by simpa using f0, by simpa using f8, by simpa using f3, by simp, fun _ => hz, by simp [n11], by simpa using f14, by simpa using f15, fun x => ?_⟩
  obtain ⟨q0, q1, _⟩ := f17 (by simpa using x)
  exact ⟨q0, fun _ => q1 n18, fun y => by simp [n18] at y⟩
theorem JW.op15 (h0 : JW B wS la lb lc ld D b w) (hb : Below w.heap.size w w2) (h14 : D 14 = true) (h15 : D 15 = false) {T : List (Int × Int)} (hz : Rg w2 v T ∧ Tidied (lc ++ ld) T) : JW B wS la lb lc ld (fun j => D j || j == 15) { b with r6 := v, TB := T } w2 := by
  obtain ⟨below, hB, o6, o7, o11, o14, o15, o18, o17, o16, f0, f8, f3, f6, f7, f11, f14, f15, f17⟩ := h0.next hb
  have n18 : D 18 = false := Bool.eq_false_iff.2 fun h => by rw [o18 h] at h15; cases h15
  refine ⟨below, hB, by simpa using o6, by simpa using o7, by simpa using o11, by simpa using o14, by simp [h14], by simp, by simpa using o17, fun h => by have := o16 (by simpa using h); simp [this.1, this.2], by simpa using f0, by simpa using f8, by simpa using f3, by simpa using f6, by simpa using f7, by simpa using f11, by simp, fun _ => hz, fun x => ?_⟩
  obtain ⟨q0, q1, _⟩ := f17 (by simpa using x)
  exact ⟨q0, fun _ => q1 n18, fun y => by simp [n18] at y⟩
theorem JW.op17 (h0 : JW B wS la lb lc ld D b w) (hb : Below w.heap.size w w2) (n18 : D 18 = false) {q : Nat} (hq : B ≤ q) (hz : w2.heap[q]? = some (.cells polZ 25 (0, 0))) : JW B wS la lb lc ld (fun j => D j || j == 17) { b with q := q } w2 := by
  obtain ⟨below, hB, o6, o7, o11, o14, o15, o18, o17, o16, f0, f8, f3, f6, f7, f11, f14, f15, f17⟩ := h0.next hb
  exact ⟨below, hB, by simpa using o6, by simpa using o7, by simpa using o11, by simpa using o14, by simpa using o15, by simpa using o18, by simp, fun h => by have := o16 (by simpa using h); simp [this.1, this.2], by simpa using f0, by simpa using f8, by simpa using f3, by simpa using f6, by simpa using f7, by simpa using f11, by simpa using f14, by simpa using f15, fun _ => ⟨hq, fun _ => hz, fun y => by simp [n18] at y⟩⟩
theorem JW.op11 (h0 : JW B wS la lb lc ld D b w) (hb : Below w.heap.size w w2) (h7 : D 7 = true) (h14 : D 14 = false) (hz : (lc = [] ∧ Zs B w2 v) ∨ (lc ≠ [] ∧ RowJ B w2 v lc ∧ v.ownBlock = some w.heap.size)) : JW B wS la lb lc ld (fun j => D j || j == 11) { b with r4 := v } w2 := by
  have hr3 := (h0.f7 h7).1
  obtain ⟨below, hB, o6, o7, o11, o14, o15, o18, o17, o16, f0, f8, f3, f6, f7, f11, f14, f15, f17⟩ := h0.next hb
  refine ⟨below, hB, by simpa using o6, by simpa using o7, by simp [h7], by simp, by simpa using o15, by simpa using o18, by simpa using o17, fun h => by have := o16 (by simpa using h); simp [this.1, this.2], by simpa using f0, by simp, by simpa using f3, by simpa using f6, by simpa using f7, fun _ _ => ?_, by simpa using f14, by simpa using f15, by simpa [polJ] using f17⟩
  rcases hz with h | ⟨e, z, ho⟩
  · exact .inl h
  · refine .inr ⟨e, z, fun w' hg => ?_⟩
    rw [show ({ b with r4 := v } : JB).r4 = v from rfl, ho] at hg
    exact hr3.below ⟨hg.os.trans hb.os, hg.tape.trans hb.tape, hg.output.trans hb.output, Nat.le_trans hb.size hg.size, fun k hk => (hg.block k (Nat.lt_of_lt_of_le hk hb.size) (fun e => by injection e with e; omega)).trans (hb.block k hk)⟩
/-- The second append of a chain: it may write into the row that the first one made. -/
theorem JW.op6 (h0 : JW B wS la lb lc ld D b w) (h3 : D 3 = true) (h6 : D 6 = false) (hz : Below w.heap.size w w2 ∨ (la ≠ [] ∧ RowJ B w b.r1 la ∧ w.grownBy w2 b.r1.ownBlock)) (hr : Rg w2 v (la ++ lb)) : JW B wS la lb lc ld (fun j => D j || j == 6) { b with r2 := v } w2 := by
  have n7 : D 7 = false := Bool.eq_false_iff.2 fun h => by rw [h0.o7 h] at h6; cases h6
  have n11 : D 11 = false := Bool.eq_false_iff.2 fun h => by rw [h0.o11 h] at n7; cases n7
  have n14 : D 14 = false := Bool.eq_false_iff.2 fun h => by rw [h0.o14 h] at n11; cases n11
  have n15 : D 15 = false := Bool.eq_false_iff.2 fun h => by rw [h0.o15 h] at n14; cases n14
  have n18 : D 18 = false := Bool.eq_false_iff.2 fun h => by rw [h0.o18 h] at n15; cases n15
  rcases hz with hb | ⟨hne, hrow, hg⟩
  · obtain ⟨below, hB, o6, o7, o11, o14, o15, o18, o17, o16, f0, f8, f3, f6, f7, f11, f14, f15, f17⟩ := h0.next hb
    exact ⟨below, hB, by simp [h3], by simp, by simpa using o11, by simpa using o14, by simpa using o15, by simpa using o18, by simpa using o17, fun h => by have := o16 (by simpa using h); simp [this.1, this.2], by simpa using f0, by simpa using f8, by simp, fun _ _ => hr, by simpa using f7, by simpa using f11, by simpa using f14, by simpa using f15, by simpa [polJ] using f17⟩
  · obtain ⟨g, cap, cur, hv, ho, hbg, hcur, hcn⟩ := hrow.block hne
    rw [ho] at hg
    obtain ⟨below, hB, o6, o7, o11, o14, o15, o18, o17, o16, f0, f8, f3, f6, f7, f11, f14, f15, f17⟩ := h0
    refine ⟨below.grown hg hB (fun k e => by injection e with e; omega), Nat.le_trans hB hg.size, by simp [h3], by simp, by simpa using o11, by simpa using o14, by simpa using o15, by simpa using o18, by simpa using o17, fun h => by have := o16 (by simpa using h); simp [this.1, this.2], by simp [h3], fun x y => ?_, by simp, fun _ _ => hr, by simp [n7], by simp [n11], by simp [n14], by simp [n15], fun x => ?_⟩
    · obtain ⟨g8, e8, b8, c8⟩ := f8 (by simpa using x) n11
      refine ⟨g8, e8, b8, ?_⟩
      rw [hg.block g8 (Array.getElem?_eq_some_iff.1 c8).1 (fun e => by
        injection e with e
        subst e
        rw [hcur] at c8
        injection c8 with c8
        injection c8 with c8
        exact hcn c8)]
      exact c8
    · obtain ⟨q0, q1, _⟩ := f17 (by simpa using x)
      refine ⟨q0, fun _ => ?_, fun y => by simp [n18] at y⟩
      have c := q1 n18
      rw [hg.block b.q (Array.getElem?_eq_some_iff.1 c).1 (fun e => by
        injection e with e
        rw [← e, c] at hcur
        injection hcur with hcur
        injection hcur with _ hcur
        exact absurd hcur (by decide))]
      exact c
theorem JW.op14 (h0 : JW B wS la lb lc ld D b w) (h11 : D 11 = true) (h14 : D 14 = false) (hz : Below w.heap.size w w2 ∨ (lc ≠ [] ∧ RowJ B w b.r4 lc ∧ (∀ w', w.grownBy w' b.r4.ownBlock → Rg w' b.r3 b.TA) ∧ w.grownBy w2 b.r4.ownBlock)) (hr : Rg w2 v (lc ++ ld)) : JW B wS la lb lc ld (fun j => D j || j == 14) { b with r5 := v } w2 := by
  have n15 : D 15 = false := Bool.eq_false_iff.2 fun h => by rw [h0.o15 h] at h14; cases h14
  have n18 : D 18 = false := Bool.eq_false_iff.2 fun h => by rw [h0.o18 h] at n15; cases n15
  have h7 := h0.o11 h11
  have h6 := h0.o7 h7
  have h3 := h0.o6 h6
  rcases hz with hb | ⟨hne, hrow, hcl, hg⟩
  · obtain ⟨below, hB, o6, o7, o11, o14, o15, o18, o17, o16, f0, f8, f3, f6, f7, f11, f14, f15, f17⟩ := h0.next hb
    exact ⟨below, hB, by simpa using o6, by simpa using o7, by simpa using o11, by simp [h11], by simp, by simpa using o18, by simpa using o17, fun h => by have := o16 (by simpa using h); simp [this.1, this.2], by simpa using f0, by simpa using f8, by simpa using f3, by simpa using f6, by simpa using f7, by simp, fun _ _ => hr, by simpa using f15, by simpa [polJ] using f17⟩
  · have hr3 := hcl w2 hg
    obtain ⟨g, cap, cur, hv, ho, hbg, hcur, hcn⟩ := hrow.block hne
    rw [ho] at hg
    obtain ⟨below, hB, o6, o7, o11, o14, o15, o18, o17, o16, f0, f8, f3, f6, f7, f11, f14, f15, f17⟩ := h0
    refine ⟨below.grown hg hB (fun k e => by injection e with e; omega), Nat.le_trans hB hg.size, by simpa using o6, by simpa using o7, by simpa using o11, by simp [h11], by simp, by simpa using o18, by simpa using o17, fun h => by have := o16 (by simpa using h); simp [this.1, this.2], by simp [h3], by simp [h11], by simp [h6], by simp [h7], fun _ => ⟨hr3, (f7 h7).2⟩, by simp, fun _ _ => hr, by simp [n15], fun x => ?_⟩
    obtain ⟨q0, q1, _⟩ := f17 (by simpa using x)
    refine ⟨q0, fun _ => ?_, fun y => by simp [n18] at y⟩
    have c := q1 n18
    rw [hg.block b.q (Array.getElem?_eq_some_iff.1 c).1 (fun e => by
      injection e with e
      rw [← e, c] at hcur
      injection hcur with hcur
      injection hcur with _ hcur
      exact absurd hcur (by decide))]
    exact c
/-- The variable is written. -/
theorem JW.op18 (h0 : JW B wS la lb lc ld D b w) (h15 : D 15 = true) (h17 : D 17 = true) (h18 : D 18 = false) (hM : Mem w.heap.size [b.q] w w2 [(b.q, polJ b)]) : JW B wS la lb lc ld (fun j => D j || j == 18) b w2 := by
  have h14 := h0.o15 h15
  have h11 := h0.o14 h14
  have h7 := h0.o11 h11
  have h6 := h0.o7 h7
  have h3 := h0.o6 h6
  obtain ⟨below, hB, o6, o7, o11, o14, o15, o18, o17, o16, f0, f8, f3, f6, f7, f11, f14, f15, f17⟩ := h0
  obtain ⟨q0, q1, _⟩ := f17 h17
  have c := q1 h18
  have hg : w.grownBy w2 (some b.q) := ⟨hM.os, hM.tape, hM.output, hM.size, fun k hk hn => hM.block k hk (by simpa using fun e => hn (by rw [e]))⟩
  have hno : ∀ (j : Nat) (x : Int), polZ[j]? ≠ some (Value.int .i64 x) := by
    intro j x
    match j with
    | 0 => simp [polZ]
    | 1 => simp [polZ]
    | 2 => simp [polZ]
    | 3 => simp [polZ]
    | j + 4 => simp [polZ]
  refine ⟨below.grown hg hB (fun k e => by injection e with e; omega), Nat.le_trans hB hg.size, by simpa using o6, by simpa using o7, by simpa using o11, by simpa using o14, by simpa using o15, by simp [h15], by simp [h17], fun h => by have := o16 (by simpa using h); simp [this.1, this.2], by simp [h3], by simp [h11], by simp [h6], by simp [h7], fun _ => ⟨rg_grown (f7 h7).1 hg (rg_off (f7 h7).1 c hno), (f7 h7).2⟩, by simp [h14], by simp [h15], fun _ => ⟨rg_grown (f15 h15).1 hg (rg_off (f15 h15).1 c hno), (f15 h15).2⟩, fun _ => ⟨q0, by simp, fun _ => ?_⟩⟩
  exact hM.row (b.q, polJ b) (by simp)
end
end Go.Proofs.YtfceifmhlmiiiaaGreatDoor
