/-
  Rows that are appended to, as blocks known whole: a row that is none, or lies in one block of a list of those; what is appended to it; what stands in it. For any kind of elements, each of sz cells. No condition on the program.
-/
import Derived.Test.YtkmmmnoipgdedaaMem
import Derived.Maps.AppendAt
import Derived.Deep.DeepAppendRoom
import Derived.Deep.AppendSrc
namespace Go.Proofs.Ytkmmmnoipgdedaa
open Go.RowKit
set_option linter.unusedSimpArgs false
set_option linter.unusedVariables false

section
variable {n : Nat} {X : List Nat} {w0 w w' : World} {l l' : List (Nat × Array Value)}
theorem Mem.perm (h : Mem n X w0 w l) (hp : l.Perm l') : Mem n X w0 w l' :=
  ⟨h.os, h.tape, h.output, h.size, h.base, h.block, fun x hx => h.row x (hp.mem_iff.2 hx), fun x hx => h.mine x (hp.mem_iff.2 hx), (hp.map _).nodup_iff.1 h.nodup⟩
/-- What a callee made stands beside what is known. -/
theorem Mem.join (h : Mem n X w0 w l) (hc : Mem w.heap.size [] w w' l') : Mem n X w0 w' (l' ++ l) := by
  have hh := h.next hc.toBelow
  refine ⟨hh.os, hh.tape, hh.output, hh.size, hh.base, hh.block, fun x hx => ?_, fun x hx => ?_, ?_⟩
  · rcases List.mem_append.1 hx with hx | hx
    · exact hc.row x hx
    · exact hh.row x hx
  · rcases List.mem_append.1 hx with hx | hx
    · rcases hc.mine x hx with h1 | h1
      · exact .inl (Nat.le_trans h.base (Nat.le_trans h.size h1))
      · cases h1
    · exact hh.mine x hx
  · rw [List.map_append, List.nodup_append]
    refine ⟨hc.nodup, hh.nodup, fun a ha b hb e => ?_⟩
    obtain ⟨x, hx, rfl⟩ := List.mem_map.1 ha
    obtain ⟨y, hy, rfl⟩ := List.mem_map.1 hb
    have h1 := h.lt hy
    rcases hc.mine x hx with h2 | h2
    · omega
    · cases h2
end

section
variable {α : Type} {cl : α → List Value} {sz : Nat}
theorem flatG_len (hcl : ∀ a, (cl a).length = sz) (L : List α) : (L.flatMap cl).length = L.length * sz := by
  induction L with
  | nil => simp
  | cons a L ih => simp only [List.flatMap_cons, List.length_append, ih, hcl, List.length_cons, Nat.succ_mul]; omega
theorem flatG_get (hcl : ∀ a, (cl a).length = sz) (L : List α) : ∀ (k : Nat) (a : α), L[k]? = some a → ∀ j, j < sz → (L.flatMap cl)[k * sz + j]? = (cl a)[j]? := by
  induction L with
  | nil => intro k a h; simp at h
  | cons b L ih =>
    intro k a h j hj
    cases k with
    | zero =>
      simp only [List.getElem?_cons_zero, Option.some.injEq] at h
      subst h
      rw [Nat.zero_mul, Nat.zero_add, List.flatMap_cons, List.getElem?_append_left (by rw [hcl]; exact hj)]
    | succ k =>
      simp only [List.getElem?_cons_succ] at h
      rw [List.flatMap_cons, List.getElem?_append_right (by rw [hcl, Nat.succ_mul]; omega), hcl, show (k + 1) * sz + j - sz = k * sz + j by rw [Nat.succ_mul]; omega]
      exact ih k a h j hj
/-- A row's cells: the first ones are the elements'. -/
structure RowG (cl : α → List Value) (sz : Nat) (cs : Array Value) (cap : Nat) (L : List α) : Prop where
  size : cs.size = cap * sz
  le : L.length ≤ cap
  max : cap ≤ maxLen
  at_ : ∀ (j : Nat) (u : Value), (L.flatMap cl)[j]? = some u → cs[j]? = some u
/-- A slice that holds the elements of L: none at all, or a block of the list blk. -/
def RowAt (cl : α → List Value) (sz : Nat) (v : Value) (L : List α) (blk : List (Nat × Array Value)) : Prop :=
  (v = .slice none 0 0 ∧ L = [] ∧ blk = []) ∨ ∃ R cs cap, v = .slice (some ⟨R, 0, none⟩) L.length cap ∧ blk = [(R, cs)] ∧ RowG cl sz cs cap L
theorem RowAt.nil : RowAt cl sz (.slice none 0 0) ([] : List α) [] := .inl ⟨rfl, rfl, rfl⟩
/-- An element of a row: where it lies, and its cells. -/
theorem RowAt.elem {v : Value} {L : List α} {blk : List (Nat × Array Value)} (hA : RowAt cl sz v L blk) (hcl : ∀ a, (cl a).length = sz) (k : Nat) (a : α) (hk : L[k]? = some a) :
    ∃ R cs cap, v = .slice (some ⟨R, 0, none⟩) L.length cap ∧ blk = [(R, cs)] ∧ L.length ≤ cap ∧ cap ≤ maxLen ∧ ∀ j u, (cl a)[j]? = some u → cs[k * sz + j]? = some u := by
  rcases hA with ⟨_, rfl, _⟩ | ⟨R, cs, cap, rfl, rfl, hG⟩
  · simp at hk
  · refine ⟨R, cs, cap, rfl, rfl, hG.le, hG.max, fun j u hu => hG.at_ _ u ?_⟩
    have hj : j < sz := by have := (List.getElem?_eq_some_iff.1 hu).1; rw [hcl] at this; exact this
    rw [flatG_get hcl L k a hk j hj]
    exact hu
theorem RowAt.shape {v : Value} {L : List α} {blk : List (Nat × Array Value)} (hA : RowAt cl sz v L blk) : ∃ b cap, v = .slice b L.length cap ∧ L.length ≤ cap := by
  rcases hA with ⟨rfl, rfl, _⟩ | ⟨R, cs, cap, rfl, rfl, hG⟩
  · exact ⟨none, 0, rfl, Nat.le_refl _⟩
  · exact ⟨_, cap, rfl, hG.le⟩
end

/-- A kind of elements. -/
structure ElemK (P : Program) (t e : TypeId) (sz : Nat) : Prop where
  sl : P.underlying t = some (.slice e)
  inf : ∃ i z, P.info? e = some i ∧ i.zero = some z ∧ i.size = sz ∧ z.cells.size = sz ∧ i.bytes ≤ 1000
theorem run_room_at {P : Program} (w : World) (t ty e : TypeId) (i : TypeInfo) (ht : P.underlying t = some (.slice e)) (hi : P.info? e = some i)
    (g sLen sCap : Nat) (cur : Array Value) (T : TypeId) (hg : w.heap[g]? = some (.cells cur T (0, 0)))
    (a : Addr) (m c : Nat) (news : List Value) (hl : news.length = m * i.size) (hnews : ∀ j u, news[j]? = some u → w.cell? (a.add j) = some u) (h1 : ∀ u ∈ news, u.oneCell' = true)
    (hroom : sLen + m ≤ sCap) (hfit : sLen * i.size + news.length ≤ cur.size) :
    (Builtin.append_ #[t, t] ty #[.slice (some ⟨g, 0, none⟩) sLen sCap, .slice (some a) m c]).run P w =
      .ok (.slice (some ⟨g, 0, none⟩) (sLen + m) sCap) (w.setRow g (cur.toList.take (sLen * i.size) ++ news ++ cur.toList.drop (sLen * i.size + news.length)).toArray) := by
  have hf := run_firstCells_some (P := P) w i.size m a m c news hl hnews
  have hst := run_storeCells_at P g (sLen * i.size) T news 0 cur w hg (by simpa using hfit) h1
  simp only [Nat.add_zero] at hst
  simp [Builtin.append_, run_underlying ht, sizeOf, typeInfo, hi, Builtin.lenOf, hroom, hf, Addr.add_lit, hst]
section
variable {P : Program} {α : Type} {cl : α → List Value} {sz : Nat} {n : Nat} {X : List Nat} {w0 w : World} {l : List (Nat × Array Value)} {Rr : Nat} {t e : TypeId}
/-- Elements M, which lie in block Rr, are appended to a row. -/
theorem mem_appG (hK : ElemK P t e sz) (hcl : ∀ a, (cl a).length = sz) (h1c : ∀ a, ∀ u ∈ cl a, u.oneCell' = true) (ty : TypeId) {v : Value} {L : List α} {blk : List (Nat × Array Value)} (hA : RowAt cl sz v L blk) (M : List α) (m : Nat) (hm : M.length = m) (h0 : 0 < m) (hs : L.length + m ≤ 100000000)
    (H : Mem n X w0 w ((Rr, (M.flatMap cl).toArray) :: (blk ++ l))) :
    ∃ v' blk' w', (Builtin.append_ #[t, t] ty #[v, .slice (some ⟨Rr, 0, none⟩) m m]).run P w = .ok v' w' ∧ RowAt cl sz v' (L ++ M) blk' ∧ Mem n X w0 w' (blk' ++ l) := by
  obtain ⟨i0, z, hi, hz0, hz1, hzc, hz2⟩ := hK.inf
  have hlM : (M.flatMap cl).length = m * sz := by rw [flatG_len hcl, hm]
  have hl : (M.flatMap cl).length = m * i0.size := by rw [hlM, hz1]
  have hrow : ∀ j u, (M.flatMap cl)[j]? = some u → w.cell? ((⟨Rr, 0, none⟩ : Addr).add j) = some u := by
    intro j u hu
    rw [addr_add, Nat.zero_add]
    exact H.cell (i := 0) rfl (by simpa using hu)
  have h1M : ∀ u ∈ M.flatMap cl, u.oneCell' = true := fun u hu => by
    obtain ⟨a, _, ha⟩ := List.mem_flatMap.1 hu
    exact h1c a u ha
  rcases hA with ⟨rfl, rfl, rfl⟩ | ⟨Ro, cs, cap, rfl, rfl, hC⟩
  · have hmb : m * i0.bytes ≤ 281474976710656 := Nat.le_trans (Nat.mul_le_mul_left m hz2) (by simp at hs; omega)
    have h := run_append_nil (P := P) w t ty e i0 z hK.sl hi hz0 ⟨Rr, 0, none⟩ m m (M.flatMap cl) hl hrow h0 (by simp at hs; omega) hmb
    have hge := grownCap_ge w m 0 e
    refine ⟨_, _, _, h, .inr ⟨_, _, _, by rw [List.nil_append, hm], rfl, ⟨?_, ?_, ?_, ?_⟩⟩, (H.add ((Below.refl _ w).drew.alloc (Nat.le_refl _) _) (Nat.le_refl _) (heap_alloc_new w.drew _)).sub (List.Sublist.cons_cons _ (List.Sublist.cons _ (List.Sublist.refl _)))⟩
    · simp only [Array.size_append, List.size_toArray, size_zeroCells, hlM, hzc]
      rw [← Nat.add_mul]
      congr 1
      omega
    · rw [List.nil_append, hm]; exact hge
    · exact grownCap_le_maxLen w m 0 _ (by unfold maxLen; simp at hs; omega)
    · intro j u hu
      rw [List.nil_append] at hu
      have hj : j < (M.flatMap cl).length := (List.getElem?_eq_some_iff.1 hu).1
      rw [Array.getElem?_append_left (by simpa using hj)]
      simpa using hu
  · have hlL : (L.flatMap cl).length = L.length * sz := flatG_len hcl L
    have happ : (L ++ M).flatMap cl = L.flatMap cl ++ M.flatMap cl := List.flatMap_append
    by_cases hr : L.length + m ≤ cap
    · obtain ⟨T, hT⟩ := H.get (i := 1) rfl
      have hsz := hC.size
      have hfit : L.length * sz + m * sz ≤ cap * sz := by rw [← Nat.add_mul]; exact Nat.mul_le_mul_right sz hr
      have h := run_room_at (P := P) w t ty e i0 hK.sl hi Ro L.length cap cs T hT ⟨Rr, 0, none⟩ m m (M.flatMap cl) hl hrow h1M hr (by rw [hz1, hlM, hsz]; exact hfit)
      refine ⟨_, _, _, h, .inr ⟨_, _, _, by rw [List.length_append, hm], rfl, ⟨?_, ?_, hC.max, ?_⟩⟩, (H.setRow (i := 1) rfl _).sub (List.Sublist.cons _ (List.Sublist.refl _))⟩
      · have hcl' : cs.toList.length = cap * sz := by simpa using hsz
        simp only [List.size_toArray, List.length_append, List.length_take, List.length_drop, hlM, hz1, hcl']
        omega
      · rw [List.length_append, hm]; exact hr
      · intro j u hu
        have hcl' : cs.toList.length = cap * sz := by simpa using hsz
        rw [happ] at hu
        rw [hz1, List.getElem?_toArray, List.append_assoc]
        have htk : (cs.toList.take (L.length * sz)).length = L.length * sz := by rw [List.length_take]; omega
        by_cases hj : j < L.length * sz
        · rw [List.getElem?_append_left (by omega)] at hu ⊢
          rw [List.getElem?_take, if_pos hj]
          have := hC.at_ j u hu
          simpa using this
        · rw [List.getElem?_append_right (by omega)] at hu ⊢
          have hj2 : j - (L.flatMap cl).length < (M.flatMap cl).length := (List.getElem?_eq_some_iff.1 hu).1
          rw [htk]
          rw [hlL] at hu hj2
          rw [List.getElem?_append_left hj2]
          exact hu
    · have holds : ∀ j u, (L.flatMap cl)[j]? = some u → w.cell? ((⟨Ro, 0, none⟩ : Addr).add j) = some u := fun j u hu => by
        rw [addr_add, Nat.zero_add]
        exact H.cell (i := 1) rfl (hC.at_ j u hu)
      have hmb : (L.length + m) * i0.bytes ≤ 140737488355328 := Nat.le_trans (Nat.mul_le_mul_left _ hz2) (by omega)
      have h := run_append_grow (P := P) w t ty e i0 z hK.sl hi hz0 ⟨Ro, 0, none⟩ L.length cap (L.flatMap cl) (by rw [hlL, hz1]) holds ⟨Rr, 0, none⟩ m m (M.flatMap cl) hl hrow (by omega) (by omega) (growslice_fits (by omega) hmb)
      have hge := grownCap_ge w (L.length + m) cap e
      refine ⟨_, _, _, h, .inr ⟨_, _, _, by rw [List.length_append, hm], rfl, ⟨?_, ?_, ?_, ?_⟩⟩, ((H.add ((Below.refl _ w).drew.alloc (Nat.le_refl _) _) (Nat.le_refl _) (heap_alloc_new w.drew _)).sub (List.Sublist.cons_cons _ (List.Sublist.cons _ (List.Sublist.cons _ (List.Sublist.refl _)))))⟩
      · simp only [Array.size_append, List.size_toArray, size_zeroCells, hlL, hlM, hzc]
        rw [← Nat.add_mul, ← Nat.add_mul]
        congr 1
        omega
      · rw [List.length_append, hm]; exact hge
      · exact grownCap_le_maxLen w (L.length + m) cap _ (by unfold maxLen; omega)
      · intro j u hu
        rw [happ] at hu
        have hj : j < (L.flatMap cl ++ M.flatMap cl).length := (List.getElem?_eq_some_iff.1 hu).1
        rw [Array.getElem?_append_left (by simpa using hj)]
        simpa using hu
end
section
variable {P : Program} {ops : Array Oper} {rest : List Oper} {o : Oper} {a : Act} {w : World} {Q : Exit → Act → World → Prop} {α : Type} {cl : α → List Value} {sz : Nat} {n : Nat} {X : List Nat} {w0 : World} {l : List (Nat × Array Value)} {Rr : Nat} {t e : TypeId}
/-- Some elements are appended, in a walk. -/
theorem wpList_mappG (hgd : Region.wanted o (yielded ops a.tmps) = true) (s x : Operand) (ho : o.op = .call { callee := .builtin .append, args := #[s, x], argTypes := #[t, t] }) (hK : ElemK P t e sz) (hcl : ∀ a, (cl a).length = sz) (h1c : ∀ a, ∀ u ∈ cl a, u.oneCell' = true) {v : Value} {L : List α} {blk : List (Nat × Array Value)} (hA : RowAt cl sz v L blk) (M : List α) (m : Nat) (hm : M.length = m) (h0 : 0 < m) (hs : L.length + m ≤ 100000000)
    (cs : Array Value) (H : Mem n X w0 w ((Rr, cs) :: (blk ++ l))) (hcs : cs = (M.flatMap cl).toArray) (hv : a.eval s = v) (hx : a.eval x = .slice (some ⟨Rr, 0, none⟩) m m)
    (h : ∀ v' blk' w1, RowAt cl sz v' (L ++ M) blk' → Mem n X w0 w1 (blk' ++ l) → wpList P ops Q rest (a.put o.dst v') w1) : wpList P ops Q (o :: rest) a w :=
  wpList_want' hgd fun _ hKk => by
    subst hcs
    obtain ⟨v', blk', w', hr, h2, h3⟩ := mem_appG hK hcl h1c o.type hA M m hm h0 hs H
    unfold Oper.wp execOp
    simp only [ho, resolve, invoke, builtin, Sem.run_bind, Sem.run_pure, Result.andThen_ok, List.map_toArray, List.map_cons, List.map_nil, hv, hx, hr]
    exact hKk _ _ (h _ _ _ h2 h3)
end
end Go.Proofs.Ytkmmmnoipgdedaa
