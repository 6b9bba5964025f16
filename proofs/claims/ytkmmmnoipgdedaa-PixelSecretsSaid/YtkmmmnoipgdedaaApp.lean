/-
  'append' of bytes onto a slice that the law made itself: what comes back reads as both, and the slice itself still reads as it did. Over this seat's translation; the lengths together are at most 100000.
-/
import Derived.Test.YtkmmmnoipgdedaaLbl
import Derived.Maps.AppendAt
import Derived.Deep.DeepAppendRoom
import Derived.Deep.AppendSrc
namespace Go.Proofs.Ytkmmmnoipgdedaa
open Go.RowKit

/-- A list of bytes, cell by cell. -/
def flat : List (Int × Bool) → List Value
  | [] => []
  | p :: r => .int .u8 p.1 :: .bool p.2 :: flat r
theorem flat_length (l : List (Int × Bool)) : (flat l).length = l.length * 2 := by
  induction l with
  | nil => rfl
  | cons p r ih => simp only [flat, List.length_cons, ih]; omega
theorem flat_append (l m : List (Int × Bool)) : flat (l ++ m) = flat l ++ flat m := by
  induction l with
  | nil => rfl
  | cons p r ih => simp [flat, ih]
theorem flat_one (l : List (Int × Bool)) : ∀ u ∈ flat l, u.oneCell' = true := by
  induction l with
  | nil => intro u hu; cases hu
  | cons p r ih =>
    intro u hu
    simp only [flat, List.mem_cons] at hu
    rcases hu with rfl | rfl | hu
    · rfl
    · rfl
    · exact ih u hu
theorem flat_get (l : List (Int × Bool)) : ∀ k, k < l.length → (flat l)[k * 2]? = some (.int .u8 (nth l k).1) ∧ (flat l)[k * 2 + 1]? = some (.bool (nth l k).2) := by
  induction l with
  | nil => intro k hk; simp at hk
  | cons p r ih =>
    intro k hk
    cases k with
    | zero => simp [flat, nth]
    | succ k =>
      have e1 : (k + 1) * 2 = k * 2 + 1 + 1 := by omega
      have e2 : (k + 1) * 2 + 1 = k * 2 + 1 + 1 + 1 := by omega
      have e3 : nth (p :: r) (k + 1) = nth r k := by simp [nth]
      rw [e2, e1, flat, e3, List.getElem?_cons_succ, List.getElem?_cons_succ, List.getElem?_cons_succ, List.getElem?_cons_succ]
      exact ih k (by simpa using hk)
theorem flat_inv (l : List (Int × Bool)) (j : Nat) (u : Value) (h : (flat l)[j]? = some u) : ∃ k, k < l.length ∧ ((j = k * 2 ∧ u = .int .u8 (nth l k).1) ∨ (j = k * 2 + 1 ∧ u = .bool (nth l k).2)) := by
  have hj : j < (flat l).length := (List.getElem?_eq_some_iff.1 h).1
  rw [flat_length] at hj
  have hk : j / 2 < l.length := by omega
  obtain ⟨h1, h2⟩ := flat_get l (j / 2) hk
  refine ⟨j / 2, hk, ?_⟩
  rcases Nat.mod_two_eq_zero_or_one j with e | e
  · have ej : j = j / 2 * 2 := by omega
    rw [← ej] at h1
    exact .inl ⟨ej, by rw [h] at h1; exact Option.some.inj h1⟩
  · have ej : j = j / 2 * 2 + 1 := by omega
    rw [← ej] at h2
    exact .inr ⟨ej, by rw [h] at h2; exact Option.some.inj h2⟩

/-- What is appended. -/
def SrcR (w : World) (x : Value) (l : List (Int × Bool)) : Prop :=
  (∃ c, x = .slice none 0 c ∧ l = []) ∨ ∃ a c, x = .slice (some a) l.length c ∧ ∀ j u, (flat l)[j]? = some u → w.cell? (a.add j) = some u
theorem add_mk (b off j : Nat) : (⟨b, off, none⟩ : Addr).add j = ⟨b, off + j, none⟩ := by unfold Addr.add; split <;> simp_all
theorem Rd.src {w : World} {x : Value} {l : List (Int × Bool)} (h : Rd w x l) : SrcR w x l := by
  obtain ⟨a, cap, rfl, _, _, h⟩ := h
  rcases h with rfl | ⟨b, off, rfl, _, hc⟩
  · cases a with
    | none => exact .inl ⟨cap, rfl, rfl⟩
    | some a => exact .inr ⟨a, cap, rfl, fun j u hu => by simp [flat] at hu⟩
  · refine .inr ⟨_, cap, rfl, fun j u hu => ?_⟩
    obtain ⟨k, hk, h | h⟩ := flat_inv l j u hu
    · rw [h.1, h.2, add_mk]; exact (hc k hk).1
    · rw [h.1, h.2, add_mk]; exact (hc k hk).2

/-- A slice of the call's own that reads as a list. -/
def Own (w : World) (base g cap : Nat) (l : List (Int × Bool)) : Prop := w.ownsRow base 28 2 (.slice (some ⟨g, 0, none⟩) l.length cap) l.length (flat l)
theorem Own.lt {w : World} {base g cap : Nat} {l : List (Int × Bool)} (h : Own w base g cap l) : g < w.heap.size ∧ base ≤ g := by
  rcases h.2 with ⟨h0, _⟩ | ⟨g', cap', cur, hv, hb, hg, _⟩
  · cases h0
  · injection hv with h1 h2 h3
    injection h1 with h1
    injection h1 with h1
    subst h1
    refine ⟨?_, hb⟩
    rcases Nat.lt_or_ge g w.heap.size with h' | h'
    · exact h'
    · rw [Array.getElem?_eq_none h'] at hg; cases hg
theorem Own.rd {w : World} {base g cap : Nat} {l : List (Int × Bool)} (h : Own w base g cap l) : Rd w (.slice (some ⟨g, 0, none⟩) l.length cap) l := by
  have hlt := h.lt.1
  have hc := World.ownsRow.cells h (g := g) rfl
  rcases h.2 with ⟨h0, _⟩ | ⟨g', cap', cur, hv, hb, hg, hn, hm, _⟩
  · cases h0
  · injection hv with h1 h2 h3
    subst h3
    refine ⟨_, _, rfl, hn, hm, .inr ⟨g, 0, rfl, hlt, fun k hk => ?_⟩⟩
    obtain ⟨e1, e2⟩ := flat_get l k hk
    have c1 := hc _ _ e1
    have c2 := hc _ _ e2
    rw [add_mk] at c1 c2
    exact ⟨c1, c2⟩
theorem Own.cut {w : World} {base g cap : Nat} {l m : List (Int × Bool)} (h : Own w base g cap (l ++ m)) : Own w base g cap l := by
  rcases h.2 with ⟨h0, _⟩ | ⟨g', cap', cur, hv, hb, hg, hn, hm, hs, ht⟩
  · cases h0
  · injection hv with h1 h2 h3
    injection h1 with h1
    injection h1 with h1
    subst h1 h3
    refine ⟨flat_length l, .inr ⟨g, cap, cur, rfl, hb, hg, by rw [List.length_append] at hn; omega, hm, hs, ?_⟩⟩
    have e : (cur.toList.take ((l ++ m).length * 2)).take (l.length * 2) = cur.toList.take (l.length * 2) := by
      rw [List.take_take, Nat.min_eq_left (by rw [List.length_append]; omega)]
    rw [← e, ht, flat_append, List.take_left' (flat_length l)]
theorem Own.below {w w' : World} {base g cap : Nat} {l : List (Int × Bool)} (h : Own w base g cap l) (hb : Below w.heap.size w w') : Own w' base g cap l := by
  have hlt := h.lt.1
  rcases h.2 with ⟨h0, _⟩ | ⟨g', cap', cur, hv, hb', hg, r⟩
  · cases h0
  · have e : g' = g := by
      injection hv with h1 h2 h3
      injection h1 with h1
      injection h1 with h1
      exact h1.symm
    exact ⟨h.1, .inr ⟨g', cap', cur, hv, hb', by rw [hb.block g' (by omega)]; exact hg, r⟩⟩

theorem info_byte : (Try.prog.info? 28).map (fun i => (i.zero, i.size, i.bytes)) = some (some (.agg #[.int .u8 0, .bool false]), 2, 2) := by kernel_rfl

set_option maxHeartbeats 1000000 in
/-- WHAT append DOES. -/
theorem app_bytes (w : World) (base g cap : Nat) (l m : List (Int × Bool)) (x : Value) (ty : TypeId) (own : Own w base g cap l) (hs : SrcR w x m) (hn : l.length + m.length ≤ 100000) (hbase : base ≤ w.heap.size) :
    ∃ g' cap' w', (Builtin.append_ #[24, 24] ty #[.slice (some ⟨g, 0, none⟩) l.length cap, x]).run Try.prog w = .ok (.slice (some ⟨g', 0, none⟩) (l ++ m).length cap') w' ∧
      Own w' base g' cap' (l ++ m) ∧ Own w' base g cap l ∧ Below base w w' := by
  obtain ⟨i0, hi, hz0, hz1, hz2⟩ := info_parts info_byte
  have hlt := own.lt
  rcases hs with ⟨c, rfl, rfl⟩ | ⟨a, c, rfl, hc⟩
  · have hcap : l.length ≤ cap := by
      obtain ⟨_, _, hv, h, _⟩ := own.rd
      injection hv with _ _ h3
      rw [h3]; exact h
    refine ⟨g, cap, w, ?_, by rw [List.append_nil]; exact own, own, Below.refl _ _⟩
    rw [List.append_nil]
    simp [Builtin.append_, run_underlying Try.underlying24, sizeOf, typeInfo, hi, Builtin.lenOf, Builtin.firstCells, hcap, storeCells]
  · have hl : (flat m).length = m.length * 2 := flat_length m
    by_cases hroom : l.length + m.length ≤ cap
    · obtain ⟨w', hrun, hown', hg⟩ := run_append_own_spare (P := Try.prog) w base 24 ty 28 i0 2 Try.underlying24 hi hz1 g l.length cap (flat l) own a m.length c (flat m) hl hc (flat_one m) hroom
      have ho : Own w' base g cap (l ++ m) := by unfold Own; rw [List.length_append, flat_append]; exact hown'
      refine ⟨g, cap, w', by rw [List.length_append]; exact hrun, ho, ho.cut, ?_⟩
      exact (Below.refl base w).grown hg hbase (fun k hk => by injection hk with hk; omega)
    · obtain ⟨v', w', hrun, hown', hg, _, _⟩ := run_append_own_at (P := Try.prog) w base 24 ty 28 i0 _ 2 2 Try.underlying24 hi hz0 hz1 hz2 rfl (by omega) _ l.length (flat l) own a m.length c (flat m) hl hc (flat_one m) (by unfold maxLen; omega) (by omega) hbase
      have hold : (Builtin.firstCells i0.size l.length (.slice (some ⟨g, 0, none⟩) l.length cap)).run Try.prog w.drew = .ok (flat l).toArray w.drew := by
        rw [hz1]
        exact run_firstCells_some (P := Try.prog) w.drew 2 l.length _ _ _ (flat l) (flat_length l) (by simpa using World.ownsRow.cells own (g := g) rfl)
      have hsrc : Src Try.prog i0.size 24 (.slice (some a) m.length c) m.length (flat m) w := by
        rw [hz1]
        exact Src.ofSlice w Try.underlying24 a m.length c (flat m) hl hc (flat_one m)
      have h2 := run_append_grow_src (P := Try.prog) w 24 24 ty 28 i0 _ Try.underlying24 hi hz0 (some ⟨g, 0, none⟩) l.length cap (flat l) hold (.slice (some a) m.length c) m.length (flat m) hsrc (by omega) (by omega) (growslice_fits (by omega) (by rw [hz2]; omega))
      rw [h2] at hrun
      injection hrun with e1 e2
      subst e1 e2
      refine ⟨_, _, _, by rw [List.length_append]; exact h2, ?_, ?_, ?_⟩
      · unfold Own; rw [List.length_append, flat_append]; exact hown'
      · exact World.ownsRow.alloc (show w.drew.ownsRow base 28 2 _ _ _ from own) _
      · exact (Below.refl base w).drew.alloc hbase _

/-- One append of a region, by what it does. -/
theorem step_app {P : Program} {ops : Array Oper} {rest : List Oper} {o : Oper} {a : Act} {w : World} {Q : Exit → Act → World → Prop} (hw : Region.wanted o (yielded ops a.tmps) = true) (s x : Operand) (t1 t2 : TypeId)
    (ho : o.op = .call { callee := .builtin .append, args := #[s, x], argTypes := #[t1, t2] }) (V X : Value) (hs : a.eval s = V) (hx : a.eval x = X) (v' : Value) (w' : World)
    (hrun : (Builtin.append_ #[t1, t2] o.type #[V, X]).run P w = .ok v' w') (h : wpList P ops Q rest (a.put o.dst v') w') : wpList P ops Q (o :: rest) a w := by
  refine wpList_step fun K hK => ?_
  rw [if_pos hw]
  unfold Oper.wp
  simp [execOp, ho, resolve, invoke, builtin, hs, hx, hrun, Result.andThen]
  exact hK _ _ h
end Go.Proofs.Ytkmmmnoipgdedaa
