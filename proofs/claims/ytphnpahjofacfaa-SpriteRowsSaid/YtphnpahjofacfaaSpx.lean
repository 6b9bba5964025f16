/-
  What lay before a call is read in a statement whose order is open; rows of bytes that are built, and asked whether one is secret. Over this seat's translation; no condition.
-/
import Derived.Test.YtphnpahjofacfaaSpd
import Derived.Test.YtphnpahjofacfaaRgy
import Derived.Test.YtphnpahjofacfaaQst
namespace Go.Proofs.Ytphnpahjofacfaa
open Go.RowKit Go.Sort
set_option linter.unusedSimpArgs false
set_option linter.unusedVariables false

section
variable {P : Program} {o : Oper} {a : Act} {w w0 : World} {Q : Exit → Act → World → Prop} {K : Act → World → Prop} {n : Nat} {X : List Nat} {L : List (Nat × Array Value)}
theorem wp_xloadS (ty : TypeId) (x : Operand) (ho : o.op = .load ty x) (b off : Nat) (hx : a.eval x = .pointer (some ⟨b, off, none⟩)) (H : Mem n X w0 w L) (sub : Array Value) (hc : Cells w0 b off sub) (hb : b < n) (hX : b ∉ X)
    (hu : (P.underlying ty).map aggB = some true) (hz : (P.info? ty).map (·.size) = some sub.size) (h : K (a.put o.dst (.agg sub)) w) : o.wp P a w K Q := by
  have hc' : Cells w b off sub := fun j v hj => (H.old hb hX (off + j)).trans (hc j v hj)
  unfold Oper.wp execOp
  simp only [ho, hx, Instr.loadAt, Instr.sureAddr, Sem.run_bind, Sem.run_pure, Result.andThen_ok, run_loadVar_cells w b off ty sub hc' hu hz]
  exact h
theorem wp_xload1S (ty : TypeId) (x : Operand) (ho : o.op = .load ty x) (b off : Nat) (hx : a.eval x = .pointer (some ⟨b, off, none⟩)) (H : Mem n X w0 w L) (v : Value) (hc : w0.cell? ⟨b, off, none⟩ = some v) (hb : b < n) (hX : b ∉ X)
    (hu : (P.underlying ty).map aggB = some false) (h : K (a.put o.dst v) w) : o.wp P a w K Q := by
  have hc' := (H.old hb hX off).trans hc
  obtain ⟨d, hd, hd2⟩ : ∃ d, P.underlying ty = some d ∧ aggB d = false := by simpa using hu
  have hagg : (isAgg ty).run P w = .ok false w := by
    unfold isAgg
    rw [Sem.run_bind, run_underlying hd w]
    cases d <;> simp_all [aggB]
  have hl : (loadVar ty ⟨b, off, none⟩).run P w = .ok v w := by simp [loadVar, Sem.run_bind, hagg, hc']
  unfold Oper.wp execOp
  simp only [ho, hx, Instr.loadAt, Instr.sureAddr, Sem.run_bind, Sem.run_pure, Result.andThen_ok, hl]
  exact h
variable {ops : Array Oper} {rest : List Oper}
theorem wpList_mload1x (hgd : Region.wanted o (yielded ops a.tmps) = true) (ty : TypeId) (x : Operand) (ho : o.op = .load ty x) (b off : Nat) (hx : a.eval x = .pointer (some ⟨b, off, none⟩)) (H : Mem w0.heap.size [] w0 w L) (v : Value) (hc : w0.cell? ⟨b, off, none⟩ = some v) (hb : b < w0.heap.size)
    (hu : (P.underlying ty).map aggB = some false) (h : wpList P ops Q rest (a.put o.dst v) w) : wpList P ops Q (o :: rest) a w :=
  wpList_want' hgd fun _ hK => wp_xload1S ty x ho b off hx H v hc hb (by simp) hu (hK _ _ h)
end
/-- Two cells, and what reads as rows in blocks known whole. -/
theorem cells2 {w : World} {b off : Nat} {v u : Value} (h0 : w.cell? ⟨b, off, none⟩ = some v) (h1 : w.cell? ⟨b, off + 1, none⟩ = some u) : Cells w b off #[v, u] := by
  intro j x hx
  match j with
  | 0 => simp at hx; subst hx; exact h0
  | 1 => simp at hx; subst hx; exact h1
  | n + 2 => simp at hx
theorem build_bs2 (a : Int) (x : Bool) (b : Int) (y : Bool) (w : World) : (Instr.buildSlice 22 2 #[(0, .agg #[.int .u8 a, .bool x]), (1, .agg #[.int .u8 b, .bool y])]).run Try.prog w = .ok (.slice (some ⟨w.heap.size, 0, none⟩) 2 2) (w.alloc (.cells #[.int .u8 a, .bool x, .int .u8 b, .bool y] 24)) := by kernel_rfl
theorem build_bs3 (a : Int) (x : Bool) (b : Int) (y : Bool) (c : Int) (z : Bool) (w : World) : (Instr.buildSlice 22 3 #[(0, .agg #[.int .u8 a, .bool x]), (1, .agg #[.int .u8 b, .bool y]), (2, .agg #[.int .u8 c, .bool z])]).run Try.prog w = .ok (.slice (some ⟨w.heap.size, 0, none⟩) 3 3) (w.alloc (.cells #[.int .u8 a, .bool x, .int .u8 b, .bool y, .int .u8 c, .bool z] 24)) := by kernel_rfl
def bcs (x : Int × Bool) : List Value := [.int .u8 x.1, .bool x.2]
theorem bcs_len (x : Int × Bool) : (bcs x).length = 2 := rfl
theorem bcs_one (x : Int × Bool) : ∀ u ∈ bcs x, u.oneCell' = true := by
  intro u hu
  simp only [bcs, List.mem_cons, List.not_mem_nil, or_false] at hu
  rcases hu with rfl | rfl <;> rfl
theorem info_bs : (Try.prog.info? 24).map (fun i => (i.zero, i.size, i.bytes)) = some (some (.agg #[.int .u8 0, .bool false]), 2, 2) := by kernel_rfl
theorem kBS : ElemK Try.prog 22 24 2 where
  sl := Try.underlying22
  inf := by
    obtain ⟨i, hi, he⟩ := Option.map_eq_some_iff.1 info_bs
    simp only [Prod.mk.injEq] at he
    exact ⟨i, _, hi, he.1, he.2.1, rfl, by rw [he.2.2]; decide⟩
/-- A block whose first cells are a list's bytes reads as it. -/
theorem rd_cs {w : World} {R cap : Nat} {cs : Array Value} {T : TypeId} {l : List (Int × Bool)} (h : w.heap[R]? = some (.cells cs T)) (hc : l.length ≤ cap) (hm : cap ≤ maxLen) (hl : ∀ (j : Nat) (u : Value), (l.flatMap bcs)[j]? = some u → cs[j]? = some u) : Rd w (.slice (some ⟨R, 0, none⟩) l.length cap) l := by
  refine ⟨_, cap, rfl, hc, hm, .inr ⟨R, 0, rfl, (Array.getElem?_eq_some_iff.1 h).1, fun k hk => ?_⟩⟩
  have he : l[k]? = some (nth l k) := by
    unfold nth
    rw [List.getD_eq_getElem?_getD, List.getElem?_eq_getElem hk]
    rfl
  have h0 := flatG_get bcs_len l k _ he 0 (by decide)
  have h1 := flatG_get bcs_len l k _ he 1 (by decide)
  refine ⟨?_, ?_⟩
  · rw [cell_of_row w R _ _ T _ h]
    refine hl _ _ ?_
    rw [show 0 + k * 2 = k * 2 + 0 by omega, h0]
    rfl
  · rw [cell_of_row w R _ _ T _ h]
    refine hl _ _ ?_
    rw [show 0 + k * 2 + 1 = k * 2 + 1 by omega, h1]
    rfl
theorem any_row {n : Nat} {X : List Nat} {w0 w : World} {L : List (Nat × Array Value)} {R cap m : Nat} {cs : Array Value} (l : List (Int × Bool)) (s : Bool) (H : Mem n X w0 w L) (i : Nat) (hi : L[i]? = some (R, cs)) (hm : l.length = m) (hs : anyS l = s) (hc : m ≤ cap) (hx : cap ≤ maxLen) (hl : ∀ (j : Nat) (u : Value), (l.flatMap bcs)[j]? = some u → cs[j]? = some u) :
    Calls Try.prog 29 #[.slice (some ⟨R, 0, none⟩) m cap] w fun e w' => e = .returned (.bool s) ∧ Below w.heap.size w w' := by
  obtain ⟨T, h⟩ := H.get hi
  subst hm hs
  exact any_ct _ l w (rd_cs h hc hx hl)
end Go.Proofs.Ytphnpahjofacfaa
