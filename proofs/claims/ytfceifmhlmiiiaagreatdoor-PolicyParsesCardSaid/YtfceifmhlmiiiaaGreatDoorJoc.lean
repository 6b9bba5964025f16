/-
  The document's Join of policies. Over this seat's translation; of ranges that may be, at most 50000 each.
-/
import Derived.Test.YtfceifmhlmiiiaaGreatDoorJob
import Derived.Test.YtfceifmhlmiiiaaGreatDoorPck
namespace Go.Proofs.YtfceifmhlmiiiaaGreatDoor
open Go.RowKit
set_option linter.unusedSimpArgs false
set_option linter.unusedVariables false

section
variable {P : Program} {Q : Exit → Act → World → Prop} {w : World} {o : Oper} {a : Act} {K : Act → World → Prop}
theorem wp_app (s x : Operand) (t1 t2 : TypeId) (ho : o.op = .call { callee := .builtin .append, args := #[s, x], argTypes := #[t1, t2] }) (V X : Value) (hs : a.eval s = V) (hx : a.eval x = X) (v' : Value) (w' : World)
    (hrun : (Builtin.append_ #[t1, t2] o.type #[V, X]).run P w = .ok v' w') (h : K (a.put o.dst v') w') : o.wp P a w K Q := by
  unfold Oper.wp
  simp [execOp, ho, resolve, invoke, builtin, hs, hx, hrun, Result.andThen]
  exact h
theorem wp_bsl (t e : TypeId) (ho : o.op = .buildSlice t 0 #[]) (ht : P.underlying t = some (.slice e)) (i : TypeInfo) (hi : P.info? e = some i)
    (h : K (a.put o.dst (.slice (some ⟨w.heap.size, 0, none⟩) 0 0)) (w.alloc (.cells #[] e))) : o.wp P a w K Q := by
  unfold Oper.wp execOp
  simp [ho, Instr.buildSlice, run_underlying ht, sizeOf, typeInfo, hi, Instr.fill, newRow, Result.andThen]
  have e : Array.map (fun x => default) (Array.range 0) = (#[] : Array Value) := Array.eq_empty_of_size_eq_zero (by simp)
  rw [e]
  exact h
theorem wp_alo (T : TypeId) (ho : o.op = .alloc T) (cs : Array Value)
    (hz : ∀ w : World, (Instr.alloc T true (.tuple #[])).run P w = .ok (.pointer (some ⟨w.heap.size, 0, none⟩)) (w.alloc (.cells cs T)))
    (h : K (a.put o.dst (.pointer (some ⟨w.heap.size, 0, none⟩))) (w.alloc (.cells cs T))) : o.wp P a w K Q := by
  unfold Oper.wp execOp
  simp only [ho, Sem.run_bind, hz, Result.andThen_ok, Sem.run_pure]
  exact h
end
section
variable {n : Nat} {X : List Nat} {w0 w w2 : World} {l l2 : List (Nat × Array Value)}
theorem Mem.restart (h : Mem n X w0 w l) : Mem w.heap.size (l.map (·.1)) w w l :=
  ⟨rfl, rfl, rfl, Nat.le_refl _, Nat.le_refl _, fun _ _ _ => rfl, h.row, fun x hx => .inr (List.mem_map.2 ⟨x, hx, rfl⟩), h.nodup⟩
theorem Mem.below2 (h : Mem n [] w0 w l) (h2 : Mem w.heap.size (l.map (·.1)) w w2 l2) : Below n w0 w2 := by
  refine ⟨h2.os.trans h.os, h2.tape.trans h.tape, h2.output.trans h.output, Nat.le_trans h.size h2.size, fun k hk => ?_⟩
  rw [h2.block k (Nat.lt_of_lt_of_le hk (Nat.le_trans h.base h.size)) (fun hm => by
    obtain ⟨x, hx, e⟩ := List.mem_map.1 hm
    rcases h.mine x hx with h3 | h3
    · omega
    · cases h3)]
  exact h.block k hk (by simp)
def NoInts (cs : Array Value) : Prop := ∀ (j : Nat) (x : Int), cs[j]? ≠ some (Value.int .i64 x)
theorem noInts4 (p q : Bool) (a b : Option Addr) (n m c d : Nat) : NoInts #[.bool p, .bool q, .slice a n c, .slice b m d] := by
  intro j x
  match j with
  | 0 => simp
  | 1 => simp
  | 2 => simp
  | 3 => simp
  | j + 4 => simp
/-- What a slice reads stays, where only blocks have turned that hold no number. -/
theorem rg_mem {v : Value} {L : List (Int × Int)} (hr : Rg w v L) (h : Mem n X w0 w l) (hl : ∀ x ∈ l, NoInts x.2) (h2 : Mem w.heap.size (l.map (·.1)) w w2 l2) : Rg w2 v L := by
  have hr' := hr
  obtain ⟨a, cap, hv, hc, hm, h3⟩ := hr
  refine ⟨a, cap, hv, hc, hm, ?_⟩
  rcases h3 with h3 | ⟨b, off, rfl, hlt, hcell⟩
  · exact .inl h3
  · by_cases he : L = []
    · exact .inl he
    · have hb : b ∉ l.map (·.1) := fun hm => by
        obtain ⟨x, hx, e⟩ := List.mem_map.1 hm
        obtain ⟨T, hT⟩ := h.row x hx
        exact rg_off hr' hT (hl x hx) _ _ _ hv he e.symm
      have hbl := h2.block b hlt hb
      refine .inr ⟨b, off, rfl, Nat.lt_of_lt_of_le hlt h2.size, fun k hk => ?_⟩
      obtain ⟨h1, h2'⟩ := hcell k hk
      have c1 : ∀ o, w2.cell? ⟨b, o, none⟩ = w.cell? ⟨b, o, none⟩ := fun o => World.cell?_of_block (a := ⟨b, o, none⟩) hbl
      exact ⟨(c1 _).trans h1, (c1 _).trans h2'⟩
end
theorem alloc_pol (w : World) : (Instr.alloc 25 true (.tuple #[])).run Tryz.prog w = .ok (.pointer (some ⟨w.heap.size, 0, none⟩)) (w.alloc (.cells polZ 25)) := by kernel_rfl
theorem j_lt {B : Nat} {w w2 : World} (h : Below B w w2) : w.heap.size ≤ w2.heap.size := h.size
def JoinP (p q : Bool) (la lb : List (Int × Int)) (w : World) (e : Ending) (w' : World) : Prop := ∃ v3 v6 TA TB, e = .returned (polV p q v3 v6) ∧ Rg w' v3 TA ∧ Tidied la TA ∧ Rg w' v6 TB ∧ Tidied lb TB ∧ Below w.heap.size w w'
set_option maxRecDepth 20000
end Go.Proofs.YtfceifmhlmiiiaaGreatDoor
