/-
  Blocks that are known whole: what a call knows of the blocks that it made, or may write, said in one word; the walk's laws for boxes, loads and stores of whole structs, of parts of them, and of single cells. No condition on the program.
-/
import Derived.WalkKit
import Derived.ProofKit
import Derived.Lib.Hide
import Derived.Lib.QuietBelow
import Derived.BigQuiet
import Derived.Laws.Tables
import Derived.Laws.Rows
namespace Go.Proofs.Ytkmmmnoipgdedaa
open Go.RowKit Go.Sort

/-- Of the blocks below n only those of X may have turned since w0; the blocks that l lists (number, cells) hold just these; they are new, or of X, and no two are one. -/
structure Mem (n : Nat) (X : List Nat) (w0 w : World) (l : List (Nat × Array Value)) : Prop where
  os : w.os = w0.os
  tape : w.tape = w0.tape
  output : w.output = w0.output
  size : w0.heap.size ≤ w.heap.size
  base : n ≤ w0.heap.size
  block : ∀ k, k < n → k ∉ X → w.heap[k]? = w0.heap[k]?
  row : ∀ x ∈ l, ∃ T, w.heap[x.1]? = some (.cells x.2 T)
  mine : ∀ x ∈ l, n ≤ x.1 ∨ x.1 ∈ X
  nodup : (l.map (·.1)).Nodup

section
variable {n : Nat} {X : List Nat} {w0 w w' : World} {l : List (Nat × Array Value)} {R : Nat} {cs : Array Value}
theorem Mem.start (w : World) : Mem w.heap.size [] w w [] :=
  ⟨rfl, rfl, rfl, Nat.le_refl _, Nat.le_refl _, fun _ _ _ => rfl, fun _ h => (by cases h), fun _ h => (by cases h), List.nodup_nil⟩
theorem Mem.begin {T : TypeId} (h : w.heap[R]? = some (.cells cs T)) : Mem w.heap.size [R] w w [(R, cs)] :=
  ⟨rfl, rfl, rfl, Nat.le_refl _, Nat.le_refl _, fun _ _ _ => rfl, fun x hx => by simp at hx; subst hx; exact ⟨T, h⟩, fun x hx => by simp at hx; subst hx; exact .inr (by simp), by simp⟩
theorem Mem.toBelow (h : Mem n [] w0 w l) : Below n w0 w := ⟨h.os, h.tape, h.output, h.size, fun k hk => h.block k hk (by simp)⟩
theorem Mem.lt (h : Mem n X w0 w l) {x : Nat × Array Value} (hx : x ∈ l) : x.1 < w.heap.size := by
  obtain ⟨T, e⟩ := h.row x hx
  exact (Array.getElem?_eq_some_iff.1 e).1
theorem Mem.next (h : Mem n X w0 w l) (hb : Below w.heap.size w w') : Mem n X w0 w' l :=
  ⟨hb.os.trans h.os, hb.tape.trans h.tape, hb.output.trans h.output, Nat.le_trans h.size hb.size, h.base,
   fun k hk hX => (hb.block k (Nat.lt_of_lt_of_le hk (Nat.le_trans h.base h.size))).trans (h.block k hk hX),
   fun x hx => by obtain ⟨T, e⟩ := h.row x hx; exact ⟨T, (hb.block _ (h.lt hx)).trans e⟩, h.mine, h.nodup⟩
theorem Mem.sub (h : Mem n X w0 w l) {l' : List (Nat × Array Value)} (hs : l'.Sublist l) : Mem n X w0 w l' :=
  ⟨h.os, h.tape, h.output, h.size, h.base, h.block, fun x hx => h.row x (hs.subset hx), fun x hx => h.mine x (hs.subset hx), (hs.map _).nodup h.nodup⟩
theorem Mem.new (h : Mem n X w0 w l) (cs : Array Value) (T : TypeId) : Mem n X w0 (w.alloc (.cells cs T)) ((w.heap.size, cs) :: l) := by
  have hh := h.next (Below.alloc (Below.refl _ _) (Nat.le_refl _) (.cells cs T))
  refine ⟨hh.os, hh.tape, hh.output, hh.size, hh.base, hh.block, fun x hx => ?_, fun x hx => ?_, ?_⟩
  · rcases List.mem_cons.1 hx with rfl | hx
    · exact ⟨T, heap_alloc_new w _⟩
    · exact hh.row x hx
  · rcases List.mem_cons.1 hx with rfl | hx
    · exact .inl (Nat.le_trans h.base h.size)
    · exact hh.mine x hx
  · simp only [List.map_cons, List.nodup_cons]
    refine ⟨fun hm => ?_, h.nodup⟩
    obtain ⟨x, hx, e⟩ := List.mem_map.1 hm
    have := h.lt hx
    omega
theorem Mem.add (h : Mem n X w0 w l) (hb : Below w.heap.size w w') {b : Nat} {T : TypeId} (hB : w.heap.size ≤ b) (hO : w'.heap[b]? = some (.cells cs T)) : Mem n X w0 w' ((b, cs) :: l) := by
  have hh := h.next hb
  refine ⟨hh.os, hh.tape, hh.output, hh.size, hh.base, hh.block, fun x hx => ?_, fun x hx => ?_, ?_⟩
  · rcases List.mem_cons.1 hx with rfl | hx
    · exact ⟨T, hO⟩
    · exact hh.row x hx
  · rcases List.mem_cons.1 hx with rfl | hx
    · exact .inl (Nat.le_trans (Nat.le_trans h.base h.size) hB)
    · exact hh.mine x hx
  · simp only [List.map_cons, List.nodup_cons]
    refine ⟨fun hm => ?_, h.nodup⟩
    obtain ⟨x, hx, e⟩ := List.mem_map.1 hm
    have := h.lt hx
    omega
/-- One listed block has turned, by itself. -/
theorem Mem.turn (h : Mem n X w0 w l) {i : Nat} (hi : l[i]? = some (R, cs)) {cs' : Array Value} (h1 : w'.os = w.os) (h2 : w'.tape = w.tape) (h3 : w'.output = w.output) (h4 : w.heap.size ≤ w'.heap.size)
    (hR : ∃ T, w'.heap[R]? = some (.cells cs' T)) (ho : ∀ k, k < w.heap.size → k ≠ R → w'.heap[k]? = w.heap[k]?) : Mem n X w0 w' (l.set i (R, cs')) := by
  have hil : i < l.length := (List.getElem?_eq_some_iff.1 hi).1
  have hie : l[i] = (R, cs) := (List.getElem?_eq_some_iff.1 hi).2
  have hRm : (R, cs) ∈ l := List.mem_of_getElem? hi
  have hmap : (l.set i (R, cs')).map (·.1) = l.map (·.1) := by
    rw [List.map_set]
    apply List.ext_getElem?
    intro k
    rw [List.getElem?_set]
    split
    · rename_i hk
      subst hk
      simp [hie, hil]
    · rfl
  refine ⟨h1.trans h.os, h2.trans h.tape, h3.trans h.output, Nat.le_trans h.size h4, h.base, fun k hk hX => ?_, fun x hx => ?_, fun x hx => ?_, by rw [hmap]; exact h.nodup⟩
  · have hk2 : k ≠ R := fun e => by
      subst e
      rcases h.mine _ hRm with h | h
      · exact absurd hk (by simp at h; omega)
      · exact hX h
    rw [ho k (Nat.lt_of_lt_of_le hk (Nat.le_trans h.base h.size)) hk2]
    exact h.block k hk hX
  · obtain ⟨j, hj⟩ := List.getElem?_of_mem hx
    rw [List.getElem?_set] at hj
    split at hj
    · rename_i hij
      have := Option.some.inj hj
      subst this
      exact hR
    · rename_i hij
      have hxl : x ∈ l := List.mem_of_getElem? hj
      have hne : x.1 ≠ R := fun e => by
        have hj1 : (l.map (·.1))[j]? = some R := by rw [List.getElem?_map, hj]; simp [e]
        have hi1 : (l.map (·.1))[i]? = some R := by rw [List.getElem?_map, hi]; simp
        have hl1 : i < (l.map (·.1)).length := by simpa using hil
        exact hij ((List.getElem?_inj hl1 h.nodup).1 (hi1.trans hj1.symm))
      obtain ⟨T, e⟩ := h.row x hxl
      exact ⟨T, (ho _ (h.lt hxl) hne).trans e⟩
  · have hx1 : x.1 ∈ (l.set i (R, cs')).map (·.1) := List.mem_map.2 ⟨x, hx, rfl⟩
    rw [hmap] at hx1
    obtain ⟨y, hy, e⟩ := List.mem_map.1 hx1
    rw [← e]
    exact h.mine y hy
theorem Mem.setRow (h : Mem n X w0 w l) {i : Nat} (hi : l[i]? = some (R, cs)) (cs' : Array Value) : Mem n X w0 (w.setRow R cs') (l.set i (R, cs')) := by
  obtain ⟨T, e⟩ := h.row _ (List.mem_of_getElem? hi)
  exact h.turn hi rfl rfl rfl (by simp) ⟨T, setRow_heap w R _ cs' T _ e⟩ (fun k _ hk => setRow_other w R k cs' hk)
/-- A callee that may turn one listed block. -/
theorem Mem.call (h : Mem n X w0 w l) {i : Nat} (hi : l[i]? = some (R, cs)) {cs' : Array Value} (hc : Mem w.heap.size [R] w w' [(R, cs')]) : Mem n X w0 w' (l.set i (R, cs')) :=
  h.turn hi hc.os hc.tape hc.output hc.size (hc.row (R, cs') (by simp)) (fun k hk hne => hc.block k hk (by simpa using hne))
theorem Mem.get (h : Mem n X w0 w l) {i : Nat} (hi : l[i]? = some (R, cs)) : ∃ T, w.heap[R]? = some (.cells cs T) := h.row _ (List.mem_of_getElem? hi)
theorem Mem.cell (h : Mem n X w0 w l) {i : Nat} (hi : l[i]? = some (R, cs)) {j : Nat} {v : Value} (hj : cs[j]? = some v) : w.cell? ⟨R, j, none⟩ = some v := by
  obtain ⟨T, e⟩ := h.get hi
  rw [cell_of_row w R j cs T _ e, hj]
theorem Mem.free (h : Mem n X w0 w l) {i : Nat} (hi : l[i]? = some (R, cs)) (j : Nat) : w.frozen? ⟨R, j, none⟩ = false := by
  obtain ⟨T, e⟩ := h.get hi
  exact frozen_of_row w R j cs T e
end

theorem addr_add (R off i : Nat) : (⟨R, off, none⟩ : Addr).add i = ⟨R, off + i, none⟩ := by unfold Addr.add; split <;> simp_all

/-- Is it a struct, or an array? -/
def aggB : TypeDesc → Bool
  | .struct _ | .array _ _ => true
  | _ => false
/-- What stands from place k on is written over. -/
def splice (cur : List Value) (k : Nat) (vs : List Value) : List Value := cur.take k ++ vs ++ cur.drop (k + vs.length)

section
variable {P : Program}
theorem run_storeCells_part (g off : Nat) (t : TypeId) : ∀ (vs : List Value) (i : Nat) (cur : Array Value) (w : World), w.heap[g]? = some (.cells cur t (0, 0)) → off + i + vs.length ≤ cur.size → (∀ v ∈ vs, v.oneCell' = true) →
    (storeCells ⟨g, off, none⟩ vs i).run P w = .ok () (w.setRow g (splice cur.toList (off + i) vs).toArray)
  | [], i, cur, w, hg, hl, _ => by
    have e : (splice cur.toList (off + i) []).toArray = cur := by simp [splice]
    rw [e, setRow_self w g cur t _ hg]
    rfl
  | v :: rest, i, cur, w, hg, hl, h1 => by
    have hi : off + i < cur.size := by simp at hl; omega
    have hcell : w.cell? ⟨g, off + i, none⟩ = some cur[off + i] := by simp [World.cell?, hg, hi]
    have hfro : w.frozen? ⟨g, off + i, none⟩ = false := by simp [World.frozen?, hg]
    have hst : (store ((⟨g, off, none⟩ : Addr).add i) v).run P w = .ok () (w.setRow g (cur.setIfInBounds (off + i) v)) := by
      rw [addr_add, run_store P w _ v _ (h1 v (by simp)), hcell]
      simp [hfro, setCell_eq_setRow w g (off + i) cur t (0, 0) v hg]
    have ih := run_storeCells_part g off t rest (i + 1) (cur.setIfInBounds (off + i) v) (w.setRow g (cur.setIfInBounds (off + i) v)) (setRow_heap w g cur _ t _ hg) (by simp at hl ⊢; omega) (fun x hx => h1 x (by simp [hx]))
    simp only [storeCells, Sem.run_bind, hst, Result.andThen_ok, ih, setRow_setRow]
    congr 3
    unfold splice
    apply List.ext_getElem?
    intro k
    simp only [Array.toList_setIfInBounds, List.getElem?_append, List.length_take, List.length_set, Array.length_toList, List.getElem?_take, List.getElem?_set, List.getElem?_drop, List.length_append, List.length_cons]
    by_cases hk : k < off + i
    · simp [hk, show k < off + (i + 1) by omega, show off + i ≠ k by omega, show k < min (off + i) cur.size by omega, show k < min (off + (i + 1)) cur.size by omega, show k < min (off + i) cur.size + (rest.length + 1) by omega, show k < min (off + (i + 1)) cur.size + rest.length by omega]
    · by_cases hk2 : k = off + i
      · subst hk2
        simp [hi, show min (off + i) cur.size = off + i by omega, show min (off + (i + 1)) cur.size = off + (i + 1) by omega, show off + i < off + (i + 1) by omega]
        omega
      · have e1 : min (off + i) cur.size = off + i := by omega
        have e2 : min (off + (i + 1)) cur.size = off + (i + 1) := by simp at hl; omega
        simp only [e1, e2]
        by_cases hk3 : k < off + i + (rest.length + 1)
        · rw [if_pos (by omega), if_neg (by omega), if_pos (by omega), if_neg (by omega), show k - (off + i) = (k - (off + (i + 1))) + 1 by omega]
          simp
        · rw [if_neg (by omega), if_neg (by omega), if_neg (by omega)]
          congr 1
          omega
theorem run_storeVar_part (w : World) (g off : Nat) (t ty : TypeId) (old : Array Value) (v : Value) (hg : w.heap[g]? = some (.cells old t (0, 0))) (hi : (P.info? ty).map (·.size) = some v.cells.size)
    (ho : off + v.cells.size ≤ old.size) (h1 : v.cells.all (·.oneCell') = true) :
    (storeVar ty ⟨g, off, none⟩ v).run P w = .ok () (w.setRow g (splice old.toList off v.cells.toList).toArray) := by
  have := run_storeCells_part (P := P) g off t v.cells.toList 0 old w hg (by simp; omega) (fun x hx => (Array.all_eq_true_iff_forall_mem.1 h1) x (by simpa using hx))
  cases hq : P.info? ty with
  | none => simp [hq] at hi
  | some i =>
    have hs : i.size = v.cells.size := by simpa [hq] using hi
    simp only [Nat.add_zero] at this
    simp [storeVar, sizeOf, typeInfo, hq, hs, this]
theorem run_loadVar_part (w : World) (g off : Nat) (t ty : TypeId) (cs sub : Array Value) (hg : w.heap[g]? = some (.cells cs t (0, 0)))
    (hu' : (P.underlying ty).map aggB = some true) (hi : (P.info? ty).map (·.size) = some sub.size) (hs : ∀ j v, sub[j]? = some v → cs[off + j]? = some v) :
    (loadVar ty ⟨g, off, none⟩).run P w = .ok (.agg sub) w := by
  obtain ⟨d, hu, hd⟩ : ∃ d, P.underlying ty = some d ∧ aggB d = true := by simpa using hu'
  have hl : (loadCells ⟨g, off, none⟩ sub.toList.length).run P w = .ok sub.toList.toArray w :=
    run_loadCells_list (P := P) w ⟨g, off, none⟩ sub.toList (fun j v hv => by
      rw [addr_add, cell_of_row w g _ cs t _ hg]
      exact hs j v (by simpa using hv))
  cases hq : P.info? ty with
  | none => simp [hq] at hi
  | some i =>
    have hs : i.size = sub.size := by simpa [hq] using hi
    have hagg : (isAgg ty).run P w = .ok true w := by
      unfold isAgg
      rw [Sem.run_bind, run_underlying hu w]
      cases d <;> simp_all [aggB]
    simp only [Array.length_toList, Array.toArray_toList] at hl
    simp [loadVar, Sem.run_bind, hagg, sizeOf, typeInfo, hq, hs, hl]
theorem run_loadVar_one (w : World) (g off : Nat) (t ty : TypeId) (cs : Array Value) (v : Value) (hg : w.heap[g]? = some (.cells cs t (0, 0)))
    (hu' : (P.underlying ty).map aggB = some false) (hs : cs[off]? = some v) :
    (loadVar ty ⟨g, off, none⟩).run P w = .ok v w := by
  obtain ⟨d, hu, hd⟩ : ∃ d, P.underlying ty = some d ∧ aggB d = false := by simpa using hu'
  have hagg : (isAgg ty).run P w = .ok false w := by
    unfold isAgg
    rw [Sem.run_bind, run_underlying hu w]
    cases d <;> simp_all [aggB]
  have hc : w.cell? ⟨g, off, none⟩ = some v := by rw [cell_of_row w g off cs t _ hg, hs]
  simp [loadVar, Sem.run_bind, hagg, hc]

variable {ops : Array Oper} {rest : List Oper} {o : Oper} {a : Act} {w : World} {Q : Exit → Act → World → Prop} {n : Nat} {X : List Nat} {w0 : World} {l : List (Nat × Array Value)}
theorem wpList_want' (hw : Region.wanted o (yielded ops a.tmps) = true) (h : ∀ K : Act → World → Prop, (∀ a w, wpList P ops Q rest a w → K a w) → o.wp P a w K Q) : wpList P ops Q (o :: rest) a w :=
  wpList_step fun K hK => by rw [if_pos hw]; exact h K hK
/-- A variable is boxed. -/
theorem wpList_mbox (hgd : Region.wanted o (yielded ops a.tmps) = true) (T : TypeId) (x : Operand) (ho : o.op = .box T x) (H : Mem n X w0 w l) (cs : Array Value) (hx : (a.eval x).cells = cs)
    (h : ∀ R w1, w.heap.size ≤ R → Mem n X w0 w1 ((R, cs) :: l) → wpList P ops Q rest (a.put o.dst (.pointer (some ⟨R, 0, none⟩))) w1) : wpList P ops Q (o :: rest) a w :=
  wpList_want' hgd fun _ hK => by
    unfold Oper.wp execOp
    have hrun : (Instr.box T (a.eval x)).run P w = .ok (.pointer (some ⟨w.heap.size, 0, none⟩)) (w.alloc (.cells cs T)) := by
      subst hx
      rfl
    simp only [ho, Sem.run_bind, hrun, Result.andThen_ok, Sem.run_pure]
    exact hK _ _ (h _ _ (Nat.le_refl _) (H.new cs T))
/-- A struct that came by value is boxed. -/
theorem wpList_mboxA (hgd : Region.wanted o (yielded ops a.tmps) = true) (T : TypeId) (x : Operand) (ho : o.op = .box T x) (H : Mem n X w0 w l) (cs : Array Value) (hx : a.eval x = .agg cs)
    (h : ∀ R w1, w.heap.size ≤ R → Mem n X w0 w1 ((R, cs) :: l) → wpList P ops Q rest (a.put o.dst (.pointer (some ⟨R, 0, none⟩))) w1) : wpList P ops Q (o :: rest) a w :=
  wpList_mbox hgd T x ho H cs (by rw [hx]; rfl) h
/-- A variable is made, of zeros. -/
theorem wpList_mnew (hgd : Region.wanted o (yielded ops a.tmps) = true) (T : TypeId) (ho : o.op = .alloc T) (H : Mem n X w0 w l) (cs : Array Value)
    (hz : ∀ w : World, (Instr.alloc T true (.tuple #[])).run P w = .ok (.pointer (some ⟨w.heap.size, 0, none⟩)) (w.alloc (.cells cs T)))
    (h : ∀ R w1, w.heap.size ≤ R → Mem n X w0 w1 ((R, cs) :: l) → wpList P ops Q rest (a.put o.dst (.pointer (some ⟨R, 0, none⟩))) w1) : wpList P ops Q (o :: rest) a w :=
  wpList_want' hgd fun _ hK => by
    unfold Oper.wp execOp
    simp only [ho, Sem.run_bind, hz, Result.andThen_ok, Sem.run_pure]
    exact hK _ _ (h _ _ (Nat.le_refl _) (H.new cs T))
/-- A struct, or a part of one, is read. -/
theorem wpList_mload (hgd : Region.wanted o (yielded ops a.tmps) = true) (ty : TypeId) (x : Operand) (ho : o.op = .load ty x) (R off : Nat) (hx : a.eval x = .pointer (some ⟨R, off, none⟩)) (i : Nat) (H : Mem n X w0 w l) (cs sub : Array Value) (hi : l[i]? = some (R, cs))
    (hu : (P.underlying ty).map aggB = some true) (hz : (P.info? ty).map (·.size) = some sub.size) (hs : ∀ j v, sub[j]? = some v → cs[off + j]? = some v)
    (h : wpList P ops Q rest (a.put o.dst (.agg sub)) w) : wpList P ops Q (o :: rest) a w :=
  wpList_want' hgd fun _ hK => by
    obtain ⟨t, hg⟩ := H.get hi
    unfold Oper.wp execOp
    simp only [ho, hx, Instr.loadAt, Instr.sureAddr, Sem.run_bind, Sem.run_pure, Result.andThen_ok, run_loadVar_part w R off t ty cs sub hg hu hz hs]
    exact hK _ _ h
/-- A single cell is read. -/
theorem wpList_mload1 (hgd : Region.wanted o (yielded ops a.tmps) = true) (ty : TypeId) (x : Operand) (ho : o.op = .load ty x) (R off : Nat) (hx : a.eval x = .pointer (some ⟨R, off, none⟩)) (i : Nat) (H : Mem n X w0 w l) (cs : Array Value) (v : Value) (hi : l[i]? = some (R, cs)) (hs : cs[off]? = some v)
    (hu : (P.underlying ty).map aggB = some false)
    (h : wpList P ops Q rest (a.put o.dst v) w) : wpList P ops Q (o :: rest) a w :=
  wpList_want' hgd fun _ hK => by
    obtain ⟨t, hg⟩ := H.get hi
    unfold Oper.wp execOp
    simp only [ho, hx, Instr.loadAt, Instr.sureAddr, Sem.run_bind, Sem.run_pure, Result.andThen_ok, run_loadVar_one w R off t ty cs v hg hu hs]
    exact hK _ _ h
/-- A value is written, from place off on. -/
theorem wpList_mstore (hgd : Region.wanted o (yielded ops a.tmps) = true) (ty : TypeId) (x y : Operand) (ho : o.op = .store ty x y) (hdst : o.dst = none) (R off : Nat) (hx : a.eval x = .pointer (some ⟨R, off, none⟩)) (i : Nat) (H : Mem n X w0 w l) (cs cs' : Array Value) (hi : l[i]? = some (R, cs)) (v : Value) (hy : a.eval y = v)
    (hz : (P.info? ty).map (·.size) = some v.cells.size) (hl : off + v.cells.size ≤ cs.size) (h1 : v.cells.all (·.oneCell') = true) (hc : (splice cs.toList off v.cells.toList).toArray = cs')
    (h : ∀ w1, Mem n X w0 w1 (l.set i (R, cs')) → wpList P ops Q rest a w1) : wpList P ops Q (o :: rest) a w :=
  wpList_want' hgd fun _ hK => by
    obtain ⟨t, hg⟩ := H.get hi
    unfold Oper.wp execOp
    simp only [ho, hx, hy, Instr.storeAt, Instr.sureAddr, Sem.run_bind, Sem.run_pure, Result.andThen_ok, run_storeVar_part w R off t ty cs v hg hz hl h1]
    have := h _ (H.setRow hi cs')
    subst hc
    refine hK _ _ ?_
    rw [hdst]
    exact this
/-- A struct is written whole. -/
theorem wpList_mstoreA (hgd : Region.wanted o (yielded ops a.tmps) = true) (ty : TypeId) (x y : Operand) (ho : o.op = .store ty x y) (hdst : o.dst = none) (R : Nat) (hx : a.eval x = .pointer (some ⟨R, 0, none⟩)) (i : Nat) (H : Mem n X w0 w l) (cs cs' : Array Value) (hi : l[i]? = some (R, cs)) (hy : a.eval y = .agg cs')
    (hz : (P.info? ty).map (·.size) = some cs'.size) (hl : cs'.size = cs.size) (h1 : cs'.all (·.oneCell') = true)
    (h : ∀ w1, Mem n X w0 w1 (l.set i (R, cs')) → wpList P ops Q rest a w1) : wpList P ops Q (o :: rest) a w :=
  wpList_mstore hgd ty x y ho hdst R 0 hx i H cs cs' hi (.agg cs') hy hz (by show 0 + cs'.size ≤ _; omega) h1 (by
    have e : (Value.agg cs').cells.toList = cs'.toList := rfl
    have e2 : cs.toList.drop (0 + cs'.toList.length) = [] := List.drop_of_length_le (by simp; omega)
    unfold splice
    rw [e, e2]
    simp) h
/-- A struct is read whole. -/
theorem wpList_mloadA (hgd : Region.wanted o (yielded ops a.tmps) = true) (ty : TypeId) (x : Operand) (ho : o.op = .load ty x) (R : Nat) (hx : a.eval x = .pointer (some ⟨R, 0, none⟩)) (i : Nat) (H : Mem n X w0 w l) (cs : Array Value) (hi : l[i]? = some (R, cs))
    (hu : (P.underlying ty).map aggB = some true) (hz : (P.info? ty).map (·.size) = some cs.size)
    (h : wpList P ops Q rest (a.put o.dst (.agg cs)) w) : wpList P ops Q (o :: rest) a w :=
  wpList_mload hgd ty x ho R 0 hx i H cs cs hi hu hz (fun j v hj => by rw [Nat.zero_add]; exact hj) h
/-- What comes back is a struct that lies in a block. -/
theorem ret_mem1 {fn : Func} {Rr : Ending → World → Prop} {p : Tmp} {ty : TypeId} (hf : fn.results = #[.cell p ty]) (R : Nat) (hp : a.tmps.getD p undef = .pointer (some ⟨R, 0, none⟩)) (i : Nat) (H : Mem n X w0 w l) (cs : Array Value) (hi : l[i]? = some (R, cs))
    (hu : (P.underlying ty).map aggB = some true) (hz : (P.info? ty).map (·.size) = some cs.size) (hd : a.defers = []) (h : Rr (.returned (.agg cs)) w) : bodyPost P fn Rr .ret a w := by
  obtain ⟨t, hg⟩ := H.get hi
  refine bodyPost_ret ?_ hd h
  have hl := run_loadVar_part (P := P) w R 0 t ty cs cs hg hu hz (fun j v hj => by rw [Nat.zero_add]; exact hj)
  have hp' : a.tmps[p]?.getD undef = .pointer (some ⟨R, 0, none⟩) := by simpa using hp
  simp [results, hf, hp', asAddr, hl]
/-- The same, and a second result. -/
theorem ret_mem2 {fn : Func} {Rr : Ending → World → Prop} {p q : Tmp} {ty : TypeId} (hf : fn.results = #[.cell p ty, .tmp q]) (R : Nat) (hp : a.tmps.getD p undef = .pointer (some ⟨R, 0, none⟩)) (i : Nat) (H : Mem n X w0 w l) (cs : Array Value) (hi : l[i]? = some (R, cs))
    (hu : (P.underlying ty).map aggB = some true) (hz : (P.info? ty).map (·.size) = some cs.size) (hd : a.defers = []) (v : Value) (hq : a.tmps.getD q undef = v) (h : Rr (.returned (.tuple #[.agg cs, v])) w) : bodyPost P fn Rr .ret a w := by
  obtain ⟨t, hg⟩ := H.get hi
  refine bodyPost_ret ?_ hd h
  have hl := run_loadVar_part (P := P) w R 0 t ty cs cs hg hu hz (fun j v hj => by rw [Nat.zero_add]; exact hj)
  have hp' : a.tmps[p]?.getD undef = .pointer (some ⟨R, 0, none⟩) := by simpa using hp
  have hq' : a.tmps[q]?.getD undef = v := by simpa using hq
  simp [results, hf, hp', hq', asAddr, hl]
/-- The same where the order is open and the operations before, and beside, only read. -/
theorem quiet_mload1 {K : Act → Prop} (ty : TypeId) (x : Operand) (ho : o.op = .load ty x) (R off : Nat) (hx : a.eval x = .pointer (some ⟨R, off, none⟩)) (i : Nat) (H : Mem n X w0 w l) (cs : Array Value) (v : Value) (hi : l[i]? = some (R, cs)) (hs : cs[off]? = some v)
    (hu : (P.underlying ty).map aggB = some false) (h : K (a.put o.dst v)) : o.quiet P a (fun w' => ∃ p : Regrown, w' = Go.Sort.grow (redrawn w p.d) p.os) K :=
  ⟨v, fun w' hw' => by
    obtain ⟨p, rfl⟩ := hw'
    obtain ⟨t, hg⟩ := (H.next (below_regrown w p.d p.os)).get hi
    unfold Oper.quietAt execOp
    simp only [ho, hx, Instr.loadAt, Instr.sureAddr, Sem.run_bind, Sem.run_pure, Result.andThen_ok, run_loadVar_one _ R off t ty cs v hg hu hs]
    exact ⟨rfl, rfl⟩, h⟩
theorem quiet_mload {K : Act → Prop} (ty : TypeId) (x : Operand) (ho : o.op = .load ty x) (R off : Nat) (hx : a.eval x = .pointer (some ⟨R, off, none⟩)) (i : Nat) (H : Mem n X w0 w l) (cs sub : Array Value) (hi : l[i]? = some (R, cs))
    (hu : (P.underlying ty).map aggB = some true) (hz : (P.info? ty).map (·.size) = some sub.size) (hs : ∀ j v, sub[j]? = some v → cs[off + j]? = some v) (h : K (a.put o.dst (.agg sub))) : o.quiet P a (fun w' => ∃ p : Regrown, w' = Go.Sort.grow (redrawn w p.d) p.os) K :=
  ⟨_, fun w' hw' => by
    obtain ⟨p, rfl⟩ := hw'
    obtain ⟨t, hg⟩ := (H.next (below_regrown w p.d p.os)).get hi
    unfold Oper.quietAt execOp
    simp only [ho, hx, Instr.loadAt, Instr.sureAddr, Sem.run_bind, Sem.run_pure, Result.andThen_ok, run_loadVar_part _ R off t ty cs sub hg hu hz hs]
    exact ⟨rfl, rfl⟩, h⟩
theorem quiet_mloadA {K : Act → Prop} (ty : TypeId) (x : Operand) (ho : o.op = .load ty x) (R : Nat) (hx : a.eval x = .pointer (some ⟨R, 0, none⟩)) (i : Nat) (H : Mem n X w0 w l) (cs : Array Value) (hi : l[i]? = some (R, cs))
    (hu : (P.underlying ty).map aggB = some true) (hz : (P.info? ty).map (·.size) = some cs.size) (h : K (a.put o.dst (.agg cs))) : o.quiet P a (fun w' => ∃ p : Regrown, w' = Go.Sort.grow (redrawn w p.d) p.os) K :=
  quiet_mload ty x ho R 0 hx i H cs cs hi hu hz (fun j v hj => by rw [Nat.zero_add]; exact hj) h
/-- Only at a load, only at a store. -/
theorem gate_load (ty : TypeId) (x : Operand) (_ : o.op = .load ty x) (h : wpList P ops Q (o :: rest) a w) : wpList P ops Q (o :: rest) a w := h
theorem gate_store (ty : TypeId) (x y : Operand) (_ : o.op = .store ty x y) (h : wpList P ops Q (o :: rest) a w) : wpList P ops Q (o :: rest) a w := h
theorem gate_qload {C : World → Prop} {K : Act → Prop} (ty : TypeId) (x : Operand) (_ : o.op = .load ty x) (h : o.quiet P a C K) : o.quiet P a C K := h
end
end Go.Proofs.Ytkmmmnoipgdedaa
