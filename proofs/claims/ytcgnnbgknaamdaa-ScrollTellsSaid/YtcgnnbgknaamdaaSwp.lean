/-
  A statement that leaves its order open, reads two places and then writes two ('a[i], a[j] = a[j], a[i]'): what each operation gives is settled, whatever the order. No condition on the program.
-/
import Derived.Test.YtcgnnbgknaamdaaSet
namespace Go.Proofs.Ytcgnnbgknaamdaa
open Go.RowKit
set_option linter.unusedSimpArgs false
set_option linter.unusedVariables false

section
variable {P : Program} {Q : Exit → Act → World → Prop} {n : Nat} {X : List Nat} {w0 w w1 : World} {l l0 l1 l2 : List (Nat × Array Value)} {o : Oper} {a : Act} {K : Act → World → Prop}
/-- One cell is written. -/
theorem wp_sstore1 (ty : TypeId) (x y : Operand) (ho : o.op = .store ty x y) (hdst : o.dst = none) (R off : Nat) (hx : a.eval x = .pointer (some ⟨R, off, none⟩)) (i : Nat) (H : Mem n X w0 w l) (cs cs' : Array Value) (hi : l[i]? = some (R, cs)) (v : Value) (hy : a.eval y = v)
    (hz : (P.info? ty).map (·.size) = some v.cells.size) (hl : off + v.cells.size ≤ cs.size) (h1 : v.cells.all (·.oneCell') = true) (hc : (splice cs.toList off v.cells.toList).toArray = cs')
    (h : ∀ w1, Mem n X w0 w1 (l.set i (R, cs')) → K a w1) : o.wp P a w K Q := by
  obtain ⟨t, hg⟩ := H.get hi
  unfold Oper.wp execOp
  simp only [ho, hx, hy, Instr.storeAt, Instr.sureAddr, Sem.run_bind, Sem.run_pure, Result.andThen_ok, run_storeVar_part w R off t ty cs v hg hz hl h1]
  have := h _ (H.setRow hi cs')
  subst hc
  simp only [Oper.upon_skip, hdst, Act.put]
  exact this
variable {s1 s2 p q k b : Nat} {D : Nat → Bool}
/-- Operations p and q read, s1 writes behind them, s2 behind that. -/
def WSw (n : Nat) (X : List Nat) (w0 : World) (s1 s2 p q : Nat) (l0 l1 l2 : List (Nat × Array Value)) (D : Nat → Bool) (_b : Nat) (w : World) : Prop :=
  (D s1 = true → D p = true ∧ D q = true) ∧ (D s2 = true → D s1 = true) ∧ Mem n X w0 w (if D s2 = true then l2 else if D s1 = true then l1 else l0)
theorem WSw.start (h : Mem n X w0 w l0) : WSw n X w0 s1 s2 p q l0 l1 l2 (fun _ => false) 0 { w with drawn := w.drawn + 1 } := ⟨fun e => (by cases e), fun e => (by cases e), by simpa using h.drew⟩
theorem WSw.base (h : WSw n X w0 s1 s2 p q l0 l1 l2 D b w) (hp : D p = false ∨ D q = false) : Mem n X w0 w l0 := by
  obtain ⟨h1, h2, hM⟩ := h
  have e1 : D s1 = false := by
    rcases hs : D s1 with _ | _
    · rfl
    · have := h1 hs
      rcases hp with hp | hp <;> simp [hp] at this
  have e2 : D s2 = false := by
    rcases hs : D s2 with _ | _
    · rfl
    · have := h2 hs
      simp [e1] at this
  simpa [e1, e2] using hM
theorem WSw.keep (h : WSw n X w0 s1 s2 p q l0 l1 l2 D b w) (h1 : s1 ≠ k) (h2 : s2 ≠ k) : WSw n X w0 s1 s2 p q l0 l1 l2 (fun j => D j || j == k) b w := by
  have e1 : (D s1 || s1 == k) = D s1 := by simp [h1]
  have e2 : (D s2 || s2 == k) = D s2 := by simp [h2]
  unfold WSw
  simp only [e1, e2]
  exact ⟨fun e => by have := h.1 e; simp [this.1, this.2], h.2.1, h.2.2⟩
theorem WSw.before (h : WSw n X w0 s1 s2 p q l0 l1 l2 D b w) (hd : D s1 = false) : Mem n X w0 w l0 := by
  obtain ⟨_, h2, hM⟩ := h
  have e2 : D s2 = false := by
    rcases hs : D s2 with _ | _
    · rfl
    · have := h2 hs
      simp [hd] at this
  simpa [hd, e2] using hM
theorem WSw.first (h : WSw n X w0 s1 s2 p q l0 l1 l2 D b w) (hd : D s1 = false) (hp : D p = true) (hq : D q = true) (hne : s2 ≠ s1) (hM : Mem n X w0 w1 l1) : WSw n X w0 s1 s2 p q l0 l1 l2 (fun j => D j || j == s1) b w1 := by
  have e2 : D s2 = false := by
    rcases hs : D s2 with _ | _
    · rfl
    · have := h.2.1 hs
      simp [hd] at this
  have f1 : (D s1 || s1 == s1) = true := by simp
  have f2 : (D s2 || s2 == s1) = false := by simp [e2, hne]
  unfold WSw
  simp only [f1, f2]
  exact ⟨fun _ => by simp [hp, hq], fun e => (by cases e), by simpa using hM⟩
theorem WSw.between (h : WSw n X w0 s1 s2 p q l0 l1 l2 D b w) (hd : D s1 = true) (hs : D s2 = false) : Mem n X w0 w l1 := by
  have := h.2.2
  simpa [hd, hs] using this
theorem WSw.second (h : WSw n X w0 s1 s2 p q l0 l1 l2 D b w) (hd : D s1 = true) (hM : Mem n X w0 w1 l2) : WSw n X w0 s1 s2 p q l0 l1 l2 (fun j => D j || j == s2) b w1 := by
  have f1 : (D s1 || s1 == s2) = true := by simp [hd]
  have f2 : (D s2 || s2 == s2) = true := by simp
  unfold WSw
  simp only [f1, f2]
  exact ⟨fun _ => by have := h.1 hd; simp [this.1, this.2], fun _ => trivial, by simpa using hM⟩
theorem WSw.done (h : WSw n X w0 s1 s2 p q l0 l1 l2 D b w) (hs : D s2 = true) : Mem n X w0 w l2 := by
  have := h.2.2
  simpa [hs] using this
end
end Go.Proofs.Ytcgnnbgknaamdaa
