/-
  A struct whose cells are known lies in what came in: it is read, in a statement whose order is open, and in a plain one. No condition on the program.
-/
import Derived.Test.YtphnpahjofacfaaMem
namespace Go.Proofs.Ytphnpahjofacfaa
open Go.RowKit Go.Sort
section
variable {P : Program} {ops : Array Oper} {rest : List Oper} {o : Oper} {a : Act} {w w0 : World} {Q : Exit → Act → World → Prop} {n : Nat} {L : List (Nat × Array Value)}
/-- These cells stand there. -/
def Cells (w : World) (b off : Nat) (sub : Array Value) : Prop := ∀ j v, sub[j]? = some v → w.cell? ⟨b, off + j, none⟩ = some v
theorem Cells.below {b off : Nat} {sub : Array Value} (h : Cells w0 b off sub) (hb : b < w0.heap.size) (B : Below w0.heap.size w0 w) : Cells w b off sub := fun j v hj => (B.cell (p := ⟨b, off + j, none⟩) hb).trans (h j v hj)
theorem run_loadVar_cells (w : World) (b off : Nat) (ty : TypeId) (sub : Array Value) (hc : Cells w b off sub)
    (hu' : (P.underlying ty).map aggB = some true) (hi : (P.info? ty).map (·.size) = some sub.size) :
    (loadVar ty ⟨b, off, none⟩).run P w = .ok (.agg sub) w := by
  obtain ⟨d, hu, hd⟩ : ∃ d, P.underlying ty = some d ∧ aggB d = true := by simpa using hu'
  have hl : (loadCells ⟨b, off, none⟩ sub.toList.length).run P w = .ok sub.toList.toArray w :=
    run_loadCells_list (P := P) w ⟨b, off, none⟩ sub.toList (fun j v hv => by
      rw [addr_add]
      exact hc j v (by simpa using hv))
  cases hq : P.info? ty with
  | none => simp [hq] at hi
  | some i =>
    have hs : i.size = sub.size := by simpa [hq] using hi
    have hagg : (isAgg ty).run P w = .ok true w := by
      unfold isAgg
      rw [Sem.run_bind, run_underlying hu w]
      cases d <;> simp_all [aggB]
    have hl' : (loadCells ⟨b, off, none⟩ sub.size).run P w = .ok sub w := by simpa using hl
    simp [loadVar, Sem.run_bind, hagg, sizeOf, typeInfo, hq, hs, hl']
theorem quiet_xload {K : Act → Prop} (ty : TypeId) (x : Operand) (ho : o.op = .load ty x) (b off : Nat) (hx : a.eval x = .pointer (some ⟨b, off, none⟩)) (H : Mem w0.heap.size [] w0 w L) (sub : Array Value) (hc : Cells w0 b off sub) (hb : b < w0.heap.size)
    (hu : (P.underlying ty).map aggB = some true) (hz : (P.info? ty).map (·.size) = some sub.size) (h : K (a.put o.dst (.agg sub))) : o.quiet P a (fun w' => ∃ p : Regrown, w' = Go.Sort.grow (redrawn w p.d) p.os) K :=
  ⟨_, fun w' hw' => by
    obtain ⟨p, rfl⟩ := hw'
    have hc' := hc.below hb (H.next (below_regrown w p.d p.os)).toBelow
    unfold Oper.quietAt execOp
    simp only [ho, hx, Instr.loadAt, Instr.sureAddr, Sem.run_bind, Sem.run_pure, Result.andThen_ok, run_loadVar_cells _ b off ty sub hc' hu hz]
    exact ⟨rfl, rfl⟩, h⟩
theorem quiet_xload1 {K : Act → Prop} (ty : TypeId) (x : Operand) (ho : o.op = .load ty x) (b off : Nat) (hx : a.eval x = .pointer (some ⟨b, off, none⟩)) (H : Mem w0.heap.size [] w0 w L) (v : Value) (hc : w0.cell? ⟨b, off, none⟩ = some v) (hb : b < w0.heap.size)
    (hu : (P.underlying ty).map aggB = some false) (h : K (a.put o.dst v)) : o.quiet P a (fun w' => ∃ p : Regrown, w' = Go.Sort.grow (redrawn w p.d) p.os) K :=
  ⟨v, fun w' hw' => by
    obtain ⟨p, rfl⟩ := hw'
    have hc' := ((H.next (below_regrown w p.d p.os)).toBelow.cell (p := ⟨b, off, none⟩) hb).trans hc
    obtain ⟨d, hd, hd2⟩ : ∃ d, P.underlying ty = some d ∧ aggB d = false := by simpa using hu
    have hagg : ∀ W : World, (isAgg ty).run P W = .ok false W := fun W => by
      unfold isAgg
      rw [Sem.run_bind, run_underlying hd W]
      cases d <;> simp_all [aggB]
    have hl : (loadVar ty ⟨b, off, none⟩).run P (Go.Sort.grow (redrawn w p.d) p.os) = .ok v (Go.Sort.grow (redrawn w p.d) p.os) := by simp [loadVar, Sem.run_bind, hagg, hc']
    unfold Oper.quietAt execOp
    simp only [ho, hx, Instr.loadAt, Instr.sureAddr, Sem.run_bind, Sem.run_pure, Result.andThen_ok, hl]
    exact ⟨rfl, rfl⟩, h⟩
theorem wpList_xload (hgd : Region.wanted o (yielded ops a.tmps) = true) (ty : TypeId) (x : Operand) (ho : o.op = .load ty x) (b off : Nat) (hx : a.eval x = .pointer (some ⟨b, off, none⟩)) (H : Mem w0.heap.size [] w0 w L) (sub : Array Value) (hc : Cells w0 b off sub) (hb : b < w0.heap.size)
    (hu : (P.underlying ty).map aggB = some true) (hz : (P.info? ty).map (·.size) = some sub.size) (h : wpList P ops Q rest (a.put o.dst (.agg sub)) w) : wpList P ops Q (o :: rest) a w :=
  wpList_want' hgd fun _ hK => by
    unfold Oper.wp execOp
    simp only [ho, hx, Instr.loadAt, Instr.sureAddr, Sem.run_bind, Sem.run_pure, Result.andThen_ok, run_loadVar_cells w b off ty sub (hc.below hb H.toBelow) hu hz]
    exact hK _ _ h
end
end Go.Proofs.Ytphnpahjofacfaa
