/-
  The invariant of the statement in which three bytes are erased at once, whatever order its operations come in. No condition.
-/
import Derived.Test.YtmpacpiopjahnaaReg
import Derived.Test.YtmpacpiopjahnaaLbm
namespace Go.Proofs.Ytmpacpiopjahnaa
open Go.RowKit

/-- A new variable of two cells. -/
def VB (w : World) (p : Nat) : Prop := p < w.heap.size ∧ (∃ x y, w.cell? ⟨p, 0, none⟩ = some x ∧ w.cell? ⟨p, 1, none⟩ = some y) ∧ ∀ o, w.frozen? ⟨p, o, none⟩ = false
theorem VB.next {w w' : World} {p : Nat} (h : VB w p) (hb : Below w.heap.size w w') : VB w' p := by
  obtain ⟨h1, ⟨x, y, h2, h3⟩, h4⟩ := h
  exact ⟨Nat.lt_of_lt_of_le h1 hb.size, ⟨x, y, by rw [hb.cell (p := ⟨p, 0, none⟩) h1]; exact h2, by rw [hb.cell (p := ⟨p, 1, none⟩) h1]; exact h3⟩, fun o => by rw [hb.frozen (p := ⟨p, o, none⟩) h1]; exact h4 o⟩
theorem VB.set {w : World} {p : Nat} (h : VB w p) (q : Addr) (v : Value) : VB (w.setCell q v) p := by
  obtain ⟨h1, ⟨x, y, h2, h3⟩, h4⟩ := h
  have key : ∀ o z, w.cell? ⟨p, o, none⟩ = some z → ∃ z', (w.setCell q v).cell? ⟨p, o, none⟩ = some z' := fun o z hz => by
    by_cases e : q = ⟨p, o, none⟩
    · subst e; exact ⟨v, World.cell?_setCell_same _ _ _ hz⟩
    · exact ⟨z, by rw [World.cell?_setCell_other _ _ _ _ e]; exact hz⟩
  obtain ⟨x', k1⟩ := key 0 x h2
  obtain ⟨y', k2⟩ := key 1 y h3
  exact ⟨by simpa [World.setCell] using h1, ⟨x', y', k1, k2⟩, fun o => by rw [World.frozen?_setCell]; exact h4 o⟩
theorem VB.put {w : World} {p : Nat} (h : VB w p) (x : Int) (y : Bool) : BC ((w.setCell ⟨p, 0, none⟩ (.int .u8 x)).setCell ⟨p, 1, none⟩ (.bool y)) p x y := by
  obtain ⟨h1, ⟨x', y', h2, h3⟩, h4⟩ := h
  refine ⟨by simpa [World.setCell] using h1, ?_, ?_⟩
  · rw [World.cell?_setCell_other _ _ _ _ (by simp)]
    exact World.cell?_setCell_same _ _ _ h2
  · refine World.cell?_setCell_same _ _ _ (u := y') ?_
    rw [World.cell?_setCell_other _ _ _ _ (by simp)]
    exact h3
theorem BC.away {w : World} {g g' : Nat} {a : Int} {s : Bool} (h : BC w g a s) (hn : g' ≠ g) (o : Nat) (v : Value) : BC (w.setCell ⟨g', o, none⟩ v) g a s := by
  obtain ⟨h1, h2, h3⟩ := h
  refine ⟨by simpa [World.setCell] using h1, ?_, ?_⟩
  · rw [World.cell?_setCell_far _ _ _ _ hn]; exact h2
  · rw [World.cell?_setCell_far _ _ _ _ hn]; exact h3
theorem ptr_ne {p q : Nat} (h : (Value.pointer (some ⟨p, 0, none⟩)) ≠ .pointer (some ⟨q, 0, none⟩)) : p ≠ q := fun e => h (by rw [e])
theorem ptr_inj {p q : Nat} (h : (Value.pointer (some ⟨p, 0, none⟩)) = .pointer (some ⟨q, 0, none⟩)) : p = q := by
  injection h with h
  injection h with h
  injection h with h

structure FE (W0 : World) (a b c : Int) (s t u : Bool) (L : Array Bool) (w : World) (v22 v23 v24 v25 v26 v27 v7 v8 v9 : Value) : Prop where
  sz : L.size = 12
  bel : Below W0.heap.size W0 w
  f0 : L.getD 0 false = true → v22 = .agg #[.int .u8 a, .bool s]
  f1 : L.getD 1 false = true → v23 = .agg #[.int .u8 a, .bool false]
  f2 : L.getD 2 false = true → v24 = .agg #[.int .u8 b, .bool t]
  f3 : L.getD 3 false = true → v25 = .agg #[.int .u8 b, .bool false]
  f4 : L.getD 4 false = true → v26 = .agg #[.int .u8 c, .bool u]
  f5 : L.getD 5 false = true → v27 = .agg #[.int .u8 c, .bool false]
  f6 : L.getD 6 false = true → ∃ p, v7 = .pointer (some ⟨p, 0, none⟩) ∧ VB w p ∧ W0.heap.size ≤ p
  f7 : L.getD 7 false = true → ∃ p, v8 = .pointer (some ⟨p, 0, none⟩) ∧ VB w p ∧ W0.heap.size ≤ p
  f8 : L.getD 8 false = true → ∃ p, v9 = .pointer (some ⟨p, 0, none⟩) ∧ VB w p ∧ W0.heap.size ≤ p
  d67 : L.getD 6 false = true → L.getD 7 false = true → v7 ≠ v8
  d68 : L.getD 6 false = true → L.getD 8 false = true → v7 ≠ v9
  d78 : L.getD 7 false = true → L.getD 8 false = true → v8 ≠ v9
  f9 : L.getD 9 false = true → ∃ p, v7 = .pointer (some ⟨p, 0, none⟩) ∧ BC w p a false
  f10 : L.getD 10 false = true → ∃ p, v8 = .pointer (some ⟨p, 0, none⟩) ∧ BC w p b false
  f11 : L.getD 11 false = true → ∃ p, v9 = .pointer (some ⟨p, 0, none⟩) ∧ BC w p c false
  p9 : L.getD 9 false = true → L.getD 6 false = true ∧ L.getD 7 false = true ∧ L.getD 8 false = true
  p10 : L.getD 10 false = true → L.getD 6 false = true ∧ L.getD 7 false = true ∧ L.getD 8 false = true
  p11 : L.getD 11 false = true → L.getD 6 false = true ∧ L.getD 7 false = true ∧ L.getD 8 false = true
section
variable {W0 : World} {a b c : Int} {s t u : Bool} {L : Array Bool} {w : World} {v22 v23 v24 v25 v26 v27 v7 v8 v9 : Value}
theorem FE.world (h : FE W0 a b c s t u L w v22 v23 v24 v25 v26 v27 v7 v8 v9) {w' : World} (hb : Below w.heap.size w w') : FE W0 a b c s t u L w' v22 v23 v24 v25 v26 v27 v7 v8 v9 where
  sz := h.sz
  bel := h.bel.trans (hb.mono h.bel.size)
  f0 := h.f0
  f1 := h.f1
  f2 := h.f2
  f3 := h.f3
  f4 := h.f4
  f5 := h.f5
  f6 := fun hl => by obtain ⟨p, h1, h2, h3⟩ := h.f6 hl; exact ⟨p, h1, h2.next hb, h3⟩
  f7 := fun hl => by obtain ⟨p, h1, h2, h3⟩ := h.f7 hl; exact ⟨p, h1, h2.next hb, h3⟩
  f8 := fun hl => by obtain ⟨p, h1, h2, h3⟩ := h.f8 hl; exact ⟨p, h1, h2.next hb, h3⟩
  d67 := h.d67
  d68 := h.d68
  d78 := h.d78
  f9 := fun hl => by obtain ⟨p, h1, h2⟩ := h.f9 hl; exact ⟨p, h1, h2.next hb⟩
  f10 := fun hl => by obtain ⟨p, h1, h2⟩ := h.f10 hl; exact ⟨p, h1, h2.next hb⟩
  f11 := fun hl => by obtain ⟨p, h1, h2⟩ := h.f11 hl; exact ⟨p, h1, h2.next hb⟩
  p9 := h.p9
  p10 := h.p10
  p11 := h.p11
theorem FE.s0 (h : FE W0 a b c s t u L w v22 v23 v24 v25 v26 v27 v7 v8 v9) {x : Value} (hx : x = .agg #[.int .u8 a, .bool s]) : FE W0 a b c s t u (L.setIfInBounds 0 true) w x v23 v24 v25 v26 v27 v7 v8 v9 where
  sz := by rw [Array.size_setIfInBounds]; exact h.sz
  bel := h.bel
  f0 := fun _ => hx
  f1 := fun hl => h.f1 (set_imp hl (by omega))
  f2 := fun hl => h.f2 (set_imp hl (by omega))
  f3 := fun hl => h.f3 (set_imp hl (by omega))
  f4 := fun hl => h.f4 (set_imp hl (by omega))
  f5 := fun hl => h.f5 (set_imp hl (by omega))
  f6 := fun hl => h.f6 (set_imp hl (by omega))
  f7 := fun hl => h.f7 (set_imp hl (by omega))
  f8 := fun hl => h.f8 (set_imp hl (by omega))
  d67 := fun h1 h2 => h.d67 (set_imp h1 (by omega)) (set_imp h2 (by omega))
  d68 := fun h1 h2 => h.d68 (set_imp h1 (by omega)) (set_imp h2 (by omega))
  d78 := fun h1 h2 => h.d78 (set_imp h1 (by omega)) (set_imp h2 (by omega))
  f9 := fun hl => h.f9 (set_imp hl (by omega))
  f10 := fun hl => h.f10 (set_imp hl (by omega))
  f11 := fun hl => h.f11 (set_imp hl (by omega))
  p9 := fun hl => (h.p9 (set_imp hl (by omega))).imp set_mono (And.imp set_mono set_mono)
  p10 := fun hl => (h.p10 (set_imp hl (by omega))).imp set_mono (And.imp set_mono set_mono)
  p11 := fun hl => (h.p11 (set_imp hl (by omega))).imp set_mono (And.imp set_mono set_mono)
theorem FE.s1 (h : FE W0 a b c s t u L w v22 v23 v24 v25 v26 v27 v7 v8 v9) {x : Value} (hx : x = .agg #[.int .u8 a, .bool false]) : FE W0 a b c s t u (L.setIfInBounds 1 true) w v22 x v24 v25 v26 v27 v7 v8 v9 where
  sz := by rw [Array.size_setIfInBounds]; exact h.sz
  bel := h.bel
  f0 := fun hl => h.f0 (set_imp hl (by omega))
  f1 := fun _ => hx
  f2 := fun hl => h.f2 (set_imp hl (by omega))
  f3 := fun hl => h.f3 (set_imp hl (by omega))
  f4 := fun hl => h.f4 (set_imp hl (by omega))
  f5 := fun hl => h.f5 (set_imp hl (by omega))
  f6 := fun hl => h.f6 (set_imp hl (by omega))
  f7 := fun hl => h.f7 (set_imp hl (by omega))
  f8 := fun hl => h.f8 (set_imp hl (by omega))
  d67 := fun h1 h2 => h.d67 (set_imp h1 (by omega)) (set_imp h2 (by omega))
  d68 := fun h1 h2 => h.d68 (set_imp h1 (by omega)) (set_imp h2 (by omega))
  d78 := fun h1 h2 => h.d78 (set_imp h1 (by omega)) (set_imp h2 (by omega))
  f9 := fun hl => h.f9 (set_imp hl (by omega))
  f10 := fun hl => h.f10 (set_imp hl (by omega))
  f11 := fun hl => h.f11 (set_imp hl (by omega))
  p9 := fun hl => (h.p9 (set_imp hl (by omega))).imp set_mono (And.imp set_mono set_mono)
  p10 := fun hl => (h.p10 (set_imp hl (by omega))).imp set_mono (And.imp set_mono set_mono)
  p11 := fun hl => (h.p11 (set_imp hl (by omega))).imp set_mono (And.imp set_mono set_mono)
theorem FE.s2 (h : FE W0 a b c s t u L w v22 v23 v24 v25 v26 v27 v7 v8 v9) {x : Value} (hx : x = .agg #[.int .u8 b, .bool t]) : FE W0 a b c s t u (L.setIfInBounds 2 true) w v22 v23 x v25 v26 v27 v7 v8 v9 where
  sz := by rw [Array.size_setIfInBounds]; exact h.sz
  bel := h.bel
  f0 := fun hl => h.f0 (set_imp hl (by omega))
  f1 := fun hl => h.f1 (set_imp hl (by omega))
  f2 := fun _ => hx
  f3 := fun hl => h.f3 (set_imp hl (by omega))
  f4 := fun hl => h.f4 (set_imp hl (by omega))
  f5 := fun hl => h.f5 (set_imp hl (by omega))
  f6 := fun hl => h.f6 (set_imp hl (by omega))
  f7 := fun hl => h.f7 (set_imp hl (by omega))
  f8 := fun hl => h.f8 (set_imp hl (by omega))
  d67 := fun h1 h2 => h.d67 (set_imp h1 (by omega)) (set_imp h2 (by omega))
  d68 := fun h1 h2 => h.d68 (set_imp h1 (by omega)) (set_imp h2 (by omega))
  d78 := fun h1 h2 => h.d78 (set_imp h1 (by omega)) (set_imp h2 (by omega))
  f9 := fun hl => h.f9 (set_imp hl (by omega))
  f10 := fun hl => h.f10 (set_imp hl (by omega))
  f11 := fun hl => h.f11 (set_imp hl (by omega))
  p9 := fun hl => (h.p9 (set_imp hl (by omega))).imp set_mono (And.imp set_mono set_mono)
  p10 := fun hl => (h.p10 (set_imp hl (by omega))).imp set_mono (And.imp set_mono set_mono)
  p11 := fun hl => (h.p11 (set_imp hl (by omega))).imp set_mono (And.imp set_mono set_mono)
theorem FE.s3 (h : FE W0 a b c s t u L w v22 v23 v24 v25 v26 v27 v7 v8 v9) {x : Value} (hx : x = .agg #[.int .u8 b, .bool false]) : FE W0 a b c s t u (L.setIfInBounds 3 true) w v22 v23 v24 x v26 v27 v7 v8 v9 where
  sz := by rw [Array.size_setIfInBounds]; exact h.sz
  bel := h.bel
  f0 := fun hl => h.f0 (set_imp hl (by omega))
  f1 := fun hl => h.f1 (set_imp hl (by omega))
  f2 := fun hl => h.f2 (set_imp hl (by omega))
  f3 := fun _ => hx
  f4 := fun hl => h.f4 (set_imp hl (by omega))
  f5 := fun hl => h.f5 (set_imp hl (by omega))
  f6 := fun hl => h.f6 (set_imp hl (by omega))
  f7 := fun hl => h.f7 (set_imp hl (by omega))
  f8 := fun hl => h.f8 (set_imp hl (by omega))
  d67 := fun h1 h2 => h.d67 (set_imp h1 (by omega)) (set_imp h2 (by omega))
  d68 := fun h1 h2 => h.d68 (set_imp h1 (by omega)) (set_imp h2 (by omega))
  d78 := fun h1 h2 => h.d78 (set_imp h1 (by omega)) (set_imp h2 (by omega))
  f9 := fun hl => h.f9 (set_imp hl (by omega))
  f10 := fun hl => h.f10 (set_imp hl (by omega))
  f11 := fun hl => h.f11 (set_imp hl (by omega))
  p9 := fun hl => (h.p9 (set_imp hl (by omega))).imp set_mono (And.imp set_mono set_mono)
  p10 := fun hl => (h.p10 (set_imp hl (by omega))).imp set_mono (And.imp set_mono set_mono)
  p11 := fun hl => (h.p11 (set_imp hl (by omega))).imp set_mono (And.imp set_mono set_mono)
theorem FE.s4 (h : FE W0 a b c s t u L w v22 v23 v24 v25 v26 v27 v7 v8 v9) {x : Value} (hx : x = .agg #[.int .u8 c, .bool u]) : FE W0 a b c s t u (L.setIfInBounds 4 true) w v22 v23 v24 v25 x v27 v7 v8 v9 where
  sz := by rw [Array.size_setIfInBounds]; exact h.sz
  bel := h.bel
  f0 := fun hl => h.f0 (set_imp hl (by omega))
  f1 := fun hl => h.f1 (set_imp hl (by omega))
  f2 := fun hl => h.f2 (set_imp hl (by omega))
  f3 := fun hl => h.f3 (set_imp hl (by omega))
  f4 := fun _ => hx
  f5 := fun hl => h.f5 (set_imp hl (by omega))
  f6 := fun hl => h.f6 (set_imp hl (by omega))
  f7 := fun hl => h.f7 (set_imp hl (by omega))
  f8 := fun hl => h.f8 (set_imp hl (by omega))
  d67 := fun h1 h2 => h.d67 (set_imp h1 (by omega)) (set_imp h2 (by omega))
  d68 := fun h1 h2 => h.d68 (set_imp h1 (by omega)) (set_imp h2 (by omega))
  d78 := fun h1 h2 => h.d78 (set_imp h1 (by omega)) (set_imp h2 (by omega))
  f9 := fun hl => h.f9 (set_imp hl (by omega))
  f10 := fun hl => h.f10 (set_imp hl (by omega))
  f11 := fun hl => h.f11 (set_imp hl (by omega))
  p9 := fun hl => (h.p9 (set_imp hl (by omega))).imp set_mono (And.imp set_mono set_mono)
  p10 := fun hl => (h.p10 (set_imp hl (by omega))).imp set_mono (And.imp set_mono set_mono)
  p11 := fun hl => (h.p11 (set_imp hl (by omega))).imp set_mono (And.imp set_mono set_mono)
theorem FE.s5 (h : FE W0 a b c s t u L w v22 v23 v24 v25 v26 v27 v7 v8 v9) {x : Value} (hx : x = .agg #[.int .u8 c, .bool false]) : FE W0 a b c s t u (L.setIfInBounds 5 true) w v22 v23 v24 v25 v26 x v7 v8 v9 where
  sz := by rw [Array.size_setIfInBounds]; exact h.sz
  bel := h.bel
  f0 := fun hl => h.f0 (set_imp hl (by omega))
  f1 := fun hl => h.f1 (set_imp hl (by omega))
  f2 := fun hl => h.f2 (set_imp hl (by omega))
  f3 := fun hl => h.f3 (set_imp hl (by omega))
  f4 := fun hl => h.f4 (set_imp hl (by omega))
  f5 := fun _ => hx
  f6 := fun hl => h.f6 (set_imp hl (by omega))
  f7 := fun hl => h.f7 (set_imp hl (by omega))
  f8 := fun hl => h.f8 (set_imp hl (by omega))
  d67 := fun h1 h2 => h.d67 (set_imp h1 (by omega)) (set_imp h2 (by omega))
  d68 := fun h1 h2 => h.d68 (set_imp h1 (by omega)) (set_imp h2 (by omega))
  d78 := fun h1 h2 => h.d78 (set_imp h1 (by omega)) (set_imp h2 (by omega))
  f9 := fun hl => h.f9 (set_imp hl (by omega))
  f10 := fun hl => h.f10 (set_imp hl (by omega))
  f11 := fun hl => h.f11 (set_imp hl (by omega))
  p9 := fun hl => (h.p9 (set_imp hl (by omega))).imp set_mono (And.imp set_mono set_mono)
  p10 := fun hl => (h.p10 (set_imp hl (by omega))).imp set_mono (And.imp set_mono set_mono)
  p11 := fun hl => (h.p11 (set_imp hl (by omega))).imp set_mono (And.imp set_mono set_mono)
theorem FE.s6 (h : FE W0 a b c s t u L w v22 v23 v24 v25 v26 v27 v7 v8 v9) {x : Value} (p : Nat) (hx : x = .pointer (some ⟨p, 0, none⟩)) (hv : VB w p) (hp : W0.heap.size ≤ p) (hd7 : L.getD 7 false = true → x ≠ v8) (hd8 : L.getD 8 false = true → x ≠ v9) (hn9 : ¬ (L.getD 9 false = true)) (hn10 : ¬ (L.getD 10 false = true)) (hn11 : ¬ (L.getD 11 false = true)) : FE W0 a b c s t u (L.setIfInBounds 6 true) w v22 v23 v24 v25 v26 v27 x v8 v9 where
  sz := by rw [Array.size_setIfInBounds]; exact h.sz
  bel := h.bel
  f0 := fun hl => h.f0 (set_imp hl (by omega))
  f1 := fun hl => h.f1 (set_imp hl (by omega))
  f2 := fun hl => h.f2 (set_imp hl (by omega))
  f3 := fun hl => h.f3 (set_imp hl (by omega))
  f4 := fun hl => h.f4 (set_imp hl (by omega))
  f5 := fun hl => h.f5 (set_imp hl (by omega))
  f6 := fun _ => ⟨p, hx, hv, hp⟩
  f7 := fun hl => h.f7 (set_imp hl (by omega))
  f8 := fun hl => h.f8 (set_imp hl (by omega))
  d67 := fun _ h2 => hd7 (set_imp h2 (by omega))
  d68 := fun _ h2 => hd8 (set_imp h2 (by omega))
  d78 := fun h1 h2 => h.d78 (set_imp h1 (by omega)) (set_imp h2 (by omega))
  f9 := fun hl => absurd (set_imp hl (by omega)) hn9
  f10 := fun hl => absurd (set_imp hl (by omega)) hn10
  f11 := fun hl => absurd (set_imp hl (by omega)) hn11
  p9 := fun hl => (h.p9 (set_imp hl (by omega))).imp set_mono (And.imp set_mono set_mono)
  p10 := fun hl => (h.p10 (set_imp hl (by omega))).imp set_mono (And.imp set_mono set_mono)
  p11 := fun hl => (h.p11 (set_imp hl (by omega))).imp set_mono (And.imp set_mono set_mono)
theorem FE.s7 (h : FE W0 a b c s t u L w v22 v23 v24 v25 v26 v27 v7 v8 v9) {x : Value} (p : Nat) (hx : x = .pointer (some ⟨p, 0, none⟩)) (hv : VB w p) (hp : W0.heap.size ≤ p) (hd6 : L.getD 6 false = true → x ≠ v7) (hd8 : L.getD 8 false = true → x ≠ v9) (hn9 : ¬ (L.getD 9 false = true)) (hn10 : ¬ (L.getD 10 false = true)) (hn11 : ¬ (L.getD 11 false = true)) : FE W0 a b c s t u (L.setIfInBounds 7 true) w v22 v23 v24 v25 v26 v27 v7 x v9 where
  sz := by rw [Array.size_setIfInBounds]; exact h.sz
  bel := h.bel
  f0 := fun hl => h.f0 (set_imp hl (by omega))
  f1 := fun hl => h.f1 (set_imp hl (by omega))
  f2 := fun hl => h.f2 (set_imp hl (by omega))
  f3 := fun hl => h.f3 (set_imp hl (by omega))
  f4 := fun hl => h.f4 (set_imp hl (by omega))
  f5 := fun hl => h.f5 (set_imp hl (by omega))
  f6 := fun hl => h.f6 (set_imp hl (by omega))
  f7 := fun _ => ⟨p, hx, hv, hp⟩
  f8 := fun hl => h.f8 (set_imp hl (by omega))
  d67 := fun h1 _ => (hd6 (set_imp h1 (by omega))).symm
  d68 := fun h1 h2 => h.d68 (set_imp h1 (by omega)) (set_imp h2 (by omega))
  d78 := fun _ h2 => hd8 (set_imp h2 (by omega))
  f9 := fun hl => absurd (set_imp hl (by omega)) hn9
  f10 := fun hl => absurd (set_imp hl (by omega)) hn10
  f11 := fun hl => absurd (set_imp hl (by omega)) hn11
  p9 := fun hl => (h.p9 (set_imp hl (by omega))).imp set_mono (And.imp set_mono set_mono)
  p10 := fun hl => (h.p10 (set_imp hl (by omega))).imp set_mono (And.imp set_mono set_mono)
  p11 := fun hl => (h.p11 (set_imp hl (by omega))).imp set_mono (And.imp set_mono set_mono)
theorem FE.s8 (h : FE W0 a b c s t u L w v22 v23 v24 v25 v26 v27 v7 v8 v9) {x : Value} (p : Nat) (hx : x = .pointer (some ⟨p, 0, none⟩)) (hv : VB w p) (hp : W0.heap.size ≤ p) (hd6 : L.getD 6 false = true → x ≠ v7) (hd7 : L.getD 7 false = true → x ≠ v8) (hn9 : ¬ (L.getD 9 false = true)) (hn10 : ¬ (L.getD 10 false = true)) (hn11 : ¬ (L.getD 11 false = true)) : FE W0 a b c s t u (L.setIfInBounds 8 true) w v22 v23 v24 v25 v26 v27 v7 v8 x where
  sz := by rw [Array.size_setIfInBounds]; exact h.sz
  bel := h.bel
  f0 := fun hl => h.f0 (set_imp hl (by omega))
  f1 := fun hl => h.f1 (set_imp hl (by omega))
  f2 := fun hl => h.f2 (set_imp hl (by omega))
  f3 := fun hl => h.f3 (set_imp hl (by omega))
  f4 := fun hl => h.f4 (set_imp hl (by omega))
  f5 := fun hl => h.f5 (set_imp hl (by omega))
  f6 := fun hl => h.f6 (set_imp hl (by omega))
  f7 := fun hl => h.f7 (set_imp hl (by omega))
  f8 := fun _ => ⟨p, hx, hv, hp⟩
  d67 := fun h1 h2 => h.d67 (set_imp h1 (by omega)) (set_imp h2 (by omega))
  d68 := fun h1 _ => (hd6 (set_imp h1 (by omega))).symm
  d78 := fun h1 _ => (hd7 (set_imp h1 (by omega))).symm
  f9 := fun hl => absurd (set_imp hl (by omega)) hn9
  f10 := fun hl => absurd (set_imp hl (by omega)) hn10
  f11 := fun hl => absurd (set_imp hl (by omega)) hn11
  p9 := fun hl => (h.p9 (set_imp hl (by omega))).imp set_mono (And.imp set_mono set_mono)
  p10 := fun hl => (h.p10 (set_imp hl (by omega))).imp set_mono (And.imp set_mono set_mono)
  p11 := fun hl => (h.p11 (set_imp hl (by omega))).imp set_mono (And.imp set_mono set_mono)
theorem FE.s9 (h : FE W0 a b c s t u L w v22 v23 v24 v25 v26 v27 v7 v8 v9) (l6 : L.getD 6 false = true) (l7 : L.getD 7 false = true) (l8 : L.getD 8 false = true) (p : Nat) (hv : v7 = .pointer (some ⟨p, 0, none⟩)) : FE W0 a b c s t u (L.setIfInBounds 9 true) ((w.setCell ⟨p, 0, none⟩ (.int .u8 a)).setCell ⟨p, 1, none⟩ (.bool false)) v22 v23 v24 v25 v26 v27 v7 v8 v9 where
  sz := by rw [Array.size_setIfInBounds]; exact h.sz
  bel := by
    obtain ⟨p', h1, h2, h3⟩ := h.f6 l6
    obtain rfl := ptr_inj (hv.symm.trans h1)
    exact (h.bel.setCell h3 _).setCell h3 _
  f0 := fun hl => h.f0 (set_imp hl (by omega))
  f1 := fun hl => h.f1 (set_imp hl (by omega))
  f2 := fun hl => h.f2 (set_imp hl (by omega))
  f3 := fun hl => h.f3 (set_imp hl (by omega))
  f4 := fun hl => h.f4 (set_imp hl (by omega))
  f5 := fun hl => h.f5 (set_imp hl (by omega))
  f6 := fun hl => by obtain ⟨q, h1, h2, h3⟩ := h.f6 (set_imp hl (by omega)); exact ⟨q, h1, (h2.set _ _).set _ _, h3⟩
  f7 := fun hl => by obtain ⟨q, h1, h2, h3⟩ := h.f7 (set_imp hl (by omega)); exact ⟨q, h1, (h2.set _ _).set _ _, h3⟩
  f8 := fun hl => by obtain ⟨q, h1, h2, h3⟩ := h.f8 (set_imp hl (by omega)); exact ⟨q, h1, (h2.set _ _).set _ _, h3⟩
  d67 := fun h1 h2 => h.d67 (set_imp h1 (by omega)) (set_imp h2 (by omega))
  d68 := fun h1 h2 => h.d68 (set_imp h1 (by omega)) (set_imp h2 (by omega))
  d78 := fun h1 h2 => h.d78 (set_imp h1 (by omega)) (set_imp h2 (by omega))
  f9 := fun _ => by
    obtain ⟨p', h1, h2, h3⟩ := h.f6 l6
    obtain rfl := ptr_inj (hv.symm.trans h1)
    exact ⟨p, hv, h2.put a false⟩
  f10 := fun hl => by
    obtain ⟨q, h1, h2⟩ := h.f10 (set_imp hl (by omega))
    have hne : p ≠ q := (by have e := h.d67 l6 l7; rw [hv, h1] at e; exact ptr_ne e)
    exact ⟨q, h1, (h2.away hne 0 _).away hne 1 _⟩
  f11 := fun hl => by
    obtain ⟨q, h1, h2⟩ := h.f11 (set_imp hl (by omega))
    have hne : p ≠ q := (by have e := h.d68 l6 l8; rw [hv, h1] at e; exact ptr_ne e)
    exact ⟨q, h1, (h2.away hne 0 _).away hne 1 _⟩
  p9 := fun _ => ⟨set_mono l6, set_mono l7, set_mono l8⟩
  p10 := fun hl => (h.p10 (set_imp hl (by omega))).imp set_mono (And.imp set_mono set_mono)
  p11 := fun hl => (h.p11 (set_imp hl (by omega))).imp set_mono (And.imp set_mono set_mono)
theorem FE.s10 (h : FE W0 a b c s t u L w v22 v23 v24 v25 v26 v27 v7 v8 v9) (l6 : L.getD 6 false = true) (l7 : L.getD 7 false = true) (l8 : L.getD 8 false = true) (p : Nat) (hv : v8 = .pointer (some ⟨p, 0, none⟩)) : FE W0 a b c s t u (L.setIfInBounds 10 true) ((w.setCell ⟨p, 0, none⟩ (.int .u8 b)).setCell ⟨p, 1, none⟩ (.bool false)) v22 v23 v24 v25 v26 v27 v7 v8 v9 where
  sz := by rw [Array.size_setIfInBounds]; exact h.sz
  bel := by
    obtain ⟨p', h1, h2, h3⟩ := h.f7 l7
    obtain rfl := ptr_inj (hv.symm.trans h1)
    exact (h.bel.setCell h3 _).setCell h3 _
  f0 := fun hl => h.f0 (set_imp hl (by omega))
  f1 := fun hl => h.f1 (set_imp hl (by omega))
  f2 := fun hl => h.f2 (set_imp hl (by omega))
  f3 := fun hl => h.f3 (set_imp hl (by omega))
  f4 := fun hl => h.f4 (set_imp hl (by omega))
  f5 := fun hl => h.f5 (set_imp hl (by omega))
  f6 := fun hl => by obtain ⟨q, h1, h2, h3⟩ := h.f6 (set_imp hl (by omega)); exact ⟨q, h1, (h2.set _ _).set _ _, h3⟩
  f7 := fun hl => by obtain ⟨q, h1, h2, h3⟩ := h.f7 (set_imp hl (by omega)); exact ⟨q, h1, (h2.set _ _).set _ _, h3⟩
  f8 := fun hl => by obtain ⟨q, h1, h2, h3⟩ := h.f8 (set_imp hl (by omega)); exact ⟨q, h1, (h2.set _ _).set _ _, h3⟩
  d67 := fun h1 h2 => h.d67 (set_imp h1 (by omega)) (set_imp h2 (by omega))
  d68 := fun h1 h2 => h.d68 (set_imp h1 (by omega)) (set_imp h2 (by omega))
  d78 := fun h1 h2 => h.d78 (set_imp h1 (by omega)) (set_imp h2 (by omega))
  f9 := fun hl => by
    obtain ⟨q, h1, h2⟩ := h.f9 (set_imp hl (by omega))
    have hne : p ≠ q := (by have e := h.d67 l6 l7; rw [hv, h1] at e; exact (ptr_ne e).symm)
    exact ⟨q, h1, (h2.away hne 0 _).away hne 1 _⟩
  f10 := fun _ => by
    obtain ⟨p', h1, h2, h3⟩ := h.f7 l7
    obtain rfl := ptr_inj (hv.symm.trans h1)
    exact ⟨p, hv, h2.put b false⟩
  f11 := fun hl => by
    obtain ⟨q, h1, h2⟩ := h.f11 (set_imp hl (by omega))
    have hne : p ≠ q := (by have e := h.d78 l7 l8; rw [hv, h1] at e; exact ptr_ne e)
    exact ⟨q, h1, (h2.away hne 0 _).away hne 1 _⟩
  p9 := fun hl => (h.p9 (set_imp hl (by omega))).imp set_mono (And.imp set_mono set_mono)
  p10 := fun _ => ⟨set_mono l6, set_mono l7, set_mono l8⟩
  p11 := fun hl => (h.p11 (set_imp hl (by omega))).imp set_mono (And.imp set_mono set_mono)
theorem FE.s11 (h : FE W0 a b c s t u L w v22 v23 v24 v25 v26 v27 v7 v8 v9) (l6 : L.getD 6 false = true) (l7 : L.getD 7 false = true) (l8 : L.getD 8 false = true) (p : Nat) (hv : v9 = .pointer (some ⟨p, 0, none⟩)) : FE W0 a b c s t u (L.setIfInBounds 11 true) ((w.setCell ⟨p, 0, none⟩ (.int .u8 c)).setCell ⟨p, 1, none⟩ (.bool false)) v22 v23 v24 v25 v26 v27 v7 v8 v9 where
  sz := by rw [Array.size_setIfInBounds]; exact h.sz
  bel := by
    obtain ⟨p', h1, h2, h3⟩ := h.f8 l8
    obtain rfl := ptr_inj (hv.symm.trans h1)
    exact (h.bel.setCell h3 _).setCell h3 _
  f0 := fun hl => h.f0 (set_imp hl (by omega))
  f1 := fun hl => h.f1 (set_imp hl (by omega))
  f2 := fun hl => h.f2 (set_imp hl (by omega))
  f3 := fun hl => h.f3 (set_imp hl (by omega))
  f4 := fun hl => h.f4 (set_imp hl (by omega))
  f5 := fun hl => h.f5 (set_imp hl (by omega))
  f6 := fun hl => by obtain ⟨q, h1, h2, h3⟩ := h.f6 (set_imp hl (by omega)); exact ⟨q, h1, (h2.set _ _).set _ _, h3⟩
  f7 := fun hl => by obtain ⟨q, h1, h2, h3⟩ := h.f7 (set_imp hl (by omega)); exact ⟨q, h1, (h2.set _ _).set _ _, h3⟩
  f8 := fun hl => by obtain ⟨q, h1, h2, h3⟩ := h.f8 (set_imp hl (by omega)); exact ⟨q, h1, (h2.set _ _).set _ _, h3⟩
  d67 := fun h1 h2 => h.d67 (set_imp h1 (by omega)) (set_imp h2 (by omega))
  d68 := fun h1 h2 => h.d68 (set_imp h1 (by omega)) (set_imp h2 (by omega))
  d78 := fun h1 h2 => h.d78 (set_imp h1 (by omega)) (set_imp h2 (by omega))
  f9 := fun hl => by
    obtain ⟨q, h1, h2⟩ := h.f9 (set_imp hl (by omega))
    have hne : p ≠ q := (by have e := h.d68 l6 l8; rw [hv, h1] at e; exact (ptr_ne e).symm)
    exact ⟨q, h1, (h2.away hne 0 _).away hne 1 _⟩
  f10 := fun hl => by
    obtain ⟨q, h1, h2⟩ := h.f10 (set_imp hl (by omega))
    have hne : p ≠ q := (by have e := h.d78 l7 l8; rw [hv, h1] at e; exact (ptr_ne e).symm)
    exact ⟨q, h1, (h2.away hne 0 _).away hne 1 _⟩
  f11 := fun _ => by
    obtain ⟨p', h1, h2, h3⟩ := h.f8 l8
    obtain rfl := ptr_inj (hv.symm.trans h1)
    exact ⟨p, hv, h2.put c false⟩
  p9 := fun hl => (h.p9 (set_imp hl (by omega))).imp set_mono (And.imp set_mono set_mono)
  p10 := fun hl => (h.p10 (set_imp hl (by omega))).imp set_mono (And.imp set_mono set_mono)
  p11 := fun _ => ⟨set_mono l6, set_mono l7, set_mono l8⟩
theorem FE.init (W0 : World) (a b c : Int) (s t u : Bool) (v22 v23 v24 v25 v26 v27 v7 v8 v9 : Value) : FE W0 a b c s t u (Array.replicate 12 false) W0.drew v22 v23 v24 v25 v26 v27 v7 v8 v9 where
  sz := by simp
  bel := (Below.refl _ _).drew
  f0 := fun hl => by simp at hl
  f1 := fun hl => by simp at hl
  f2 := fun hl => by simp at hl
  f3 := fun hl => by simp at hl
  f4 := fun hl => by simp at hl
  f5 := fun hl => by simp at hl
  f6 := fun hl => by simp at hl
  f7 := fun hl => by simp at hl
  f8 := fun hl => by simp at hl
  f9 := fun hl => by simp at hl
  f10 := fun hl => by simp at hl
  f11 := fun hl => by simp at hl
  d67 := fun hl _ => by simp at hl
  d68 := fun hl _ => by simp at hl
  d78 := fun hl _ => by simp at hl
  p9 := fun hl => by simp at hl
  p10 := fun hl => by simp at hl
  p11 := fun hl => by simp at hl
end
end Go.Proofs.Ytmpacpiopjahnaa
