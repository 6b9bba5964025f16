/-
  Appends of ranges onto a row that the call has made itself, and what the document's Join knows between its operations. Over this seat's translation; of at most 100000 ranges together.
-/
import Derived.Test.YtfceifmhlmiiiaaGreatDoorRtd
import Derived.Test.YtfceifmhlmiiiaaGreatDoorSeu
import Derived.Maps.AppendAt
import Derived.Deep.AppendSrc
namespace Go.Proofs.YtfceifmhlmiiiaaGreatDoor
open Go.RowKit
set_option linter.unusedSimpArgs false
set_option linter.unusedVariables false

/-- A row of no ranges, with no room. -/
def Zs (B : Nat) (w : World) (v : Value) : Prop := ∃ g, v = .slice (some ⟨g, 0, none⟩) 0 0 ∧ B ≤ g ∧ w.heap[g]? = some (.cells #[] 42 (0, 0))
def RowJ (B : Nat) (w : World) (v : Value) (l : List (Int × Int)) : Prop := w.ownsRow B 42 2 v l.length (flatR l)
section
variable {B : Nat} {w w2 : World} {v : Value} {l m : List (Int × Int)}
theorem Zs.next (h : Zs B w v) (hb : Below w.heap.size w w2) : Zs B w2 v := by
  obtain ⟨g, hv, hg, e⟩ := h
  exact ⟨g, hv, hg, by rw [hb.block g (Array.getElem?_eq_some_iff.1 e).1]; exact e⟩
theorem Zs.row (h : Zs B w v) : RowJ B w v [] := by
  obtain ⟨g, rfl, hg, e⟩ := h
  exact ⟨rfl, .inr ⟨g, 0, #[], rfl, hg, e, Nat.le_refl _, by simp [maxLen], by simp, by simp [flatR]⟩⟩
theorem RowJ.next (h : RowJ B w v l) (hb : Below w.heap.size w w2) : RowJ B w2 v l := by
  refine ⟨h.1, ?_⟩
  rcases h.2 with h0 | ⟨g, cap, cur, hv, hbg, hg, r⟩
  · exact .inl h0
  · exact .inr ⟨g, cap, cur, hv, hbg, by rw [hb.block g (Array.getElem?_eq_some_iff.1 hg).1]; exact hg, r⟩
theorem RowJ.rg (ho : RowJ B w v l) : Rg w v l := by
  have ho' := ho
  rcases ho.2 with ⟨rfl, h0⟩ | ⟨g, cap, cur, rfl, hb, hg, hnc, hm, hs, ht⟩
  · obtain rfl := List.length_eq_zero_iff.1 h0
    exact rg0 w
  · refine ⟨_, _, rfl, hnc, hm, .inr ⟨g, 0, rfl, (Array.getElem?_eq_some_iff.1 hg).1, fun k hk => ?_⟩⟩
    obtain ⟨e1, e2⟩ := flatR_get l k hk
    unfold RowJ at ho'
    rw [Nat.zero_add, World.ownsRow.cellAt ho' (k * 2) (by omega), World.ownsRow.cellAt ho' (k * 2 + 1) (by omega)]
    exact ⟨e1, e2⟩
/-- Of a row of some ranges: its block. -/
theorem RowJ.block (h : RowJ B w v l) (hl : l ≠ []) : ∃ g cap cur, v = .slice (some ⟨g, 0, none⟩) l.length cap ∧ v.ownBlock = some g ∧ B ≤ g ∧ w.heap[g]? = some (.cells cur 42 (0, 0)) ∧ cur ≠ #[] := by
  rcases h.2 with ⟨rfl, h0⟩ | ⟨g, cap, cur, rfl, hb, hg, hnc, hm, hs, ht⟩
  · exact absurd (List.length_eq_zero_iff.1 h0) hl
  · refine ⟨g, cap, cur, rfl, rfl, hb, hg, fun e => ?_⟩
    subst e
    have : 0 < l.length := List.length_pos_iff.2 hl
    simp at hs
    omega
theorem rg_cellsj {b off : Nat} {l : List (Int × Int)} (h : ∀ k, k < l.length → w.cell? ⟨b, off + k * 2, none⟩ = some (.int .i64 (nthR l k).1) ∧ w.cell? ⟨b, off + k * 2 + 1, none⟩ = some (.int .i64 (nthR l k).2)) :
    ∀ j u, (flatR l)[j]? = some u → w.cell? ((⟨b, off, none⟩ : Addr).add j) = some u := by
  intro j u hu
  have hj : j < l.length * 2 := by
    have := (List.getElem?_eq_some_iff.1 hu).1
    rw [flatR_length] at this
    exact this
  obtain ⟨k, hk⟩ : ∃ k, j = k * 2 ∨ j = k * 2 + 1 := ⟨j / 2, by omega⟩
  have hkl : k < l.length := by omega
  obtain ⟨e1, e2⟩ := flatR_get l k hkl
  obtain ⟨g1, g2⟩ := h k hkl
  rw [show (⟨b, off, none⟩ : Addr).add j = ⟨b, off + j, none⟩ by unfold Addr.add; split <;> simp_all]
  rcases hk with rfl | rfl
  · rw [e1] at hu
    injection hu with hu
    rw [← hu]; exact g1
  · rw [e2] at hu
    injection hu with hu
    rw [← hu, ← Nat.add_assoc]; exact g2
theorem src_rg {i : TypeInfo} (hsz : i.size = 2) (hr : Rg w v l) : Go.Src Tryz.prog i.size 23 v l.length (flatR l) w := by
  obtain ⟨a, c, rfl, _, _, h3⟩ := hr
  rw [hsz]
  rcases h3 with rfl | ⟨b, off, rfl, hb, hc⟩
  · cases a with
    | none => exact Go.Src.ofNil (P := Tryz.prog) (w := w) (size := 2) (tx := 23) Tryz.underlying23 c
    | some ad => exact Go.Src.ofSlice w Tryz.underlying23 ad _ c [] rfl (fun j u h => by simp at h) (fun u h => by cases h)
  · exact Go.Src.ofSlice w Tryz.underlying23 _ _ c (flatR l) (flatR_length l) (rg_cellsj hc) (flatR_one l)
/-- The first append: onto a row with no room. -/
theorem app_zero (ty : TypeId) (x : Value) (hz : Zs B w v) (hs : Rg w x m) (hn : m.length ≤ 100000) (hB : B ≤ w.heap.size) :
    ∃ v' w', (Builtin.append_ #[23, 23] ty #[v, x]).run Tryz.prog w = .ok v' w' ∧ Below w.heap.size w w' ∧ ((m = [] ∧ Zs B w' v') ∨ (m ≠ [] ∧ RowJ B w' v' m ∧ v'.ownBlock = some w.heap.size)) := by
  obtain ⟨i0, hi, hz0, hz1, hz2⟩ := info_parts info_range
  have hz' := hz
  obtain ⟨g, rfl, hg, he⟩ := hz
  have hsrc := src_rg hz1 hs
  by_cases hm : m = []
  · subst hm
    have := run_append_room_src (P := Tryz.prog) (w := w) 23 23 ty 42 i0 Tryz.underlying23 hi g 0 0 0 x 0 [] hsrc (by omega) (fun j h => by simp at h) (fun j h => by simp at h)
    refine ⟨_, w, by simpa [World.setCells] using this, Below.refl _ _, .inl ⟨rfl, hz'⟩⟩
  · have hlen : 0 < m.length := List.length_pos_iff.2 hm
    have hold : (Builtin.firstCells i0.size 0 (.slice (some ⟨g, 0, none⟩) 0 0)).run Tryz.prog w.drew = .ok #[] w.drew := by
      have := run_firstCells_some (P := Tryz.prog) w.drew i0.size 0 ⟨g, 0, none⟩ 0 0 [] (by simp) (fun j u h => by simp at h)
      simpa using this
    have h2 := run_append_grow_src (P := Tryz.prog) w 23 23 ty 42 i0 _ Tryz.underlying23 hi hz0 (some ⟨g, 0, none⟩) 0 0 [] (by simpa using hold) x m.length (flatR m) hsrc (by omega) (by omega) (growslice_fits (by omega) (by rw [hz2]; omega))
    have hge := grownCap_ge w (0 + m.length) 0 42
    have hcm := grownCap_le_maxLen w (0 + m.length) 0 42 (by unfold maxLen; omega)
    refine ⟨_, _, h2, (Below.refl _ w).drew.alloc (Nat.le_refl _) _, .inr ⟨hm, ⟨flatR_length m, .inr ⟨w.heap.size, _, _, by rw [Nat.zero_add], by omega, World.alloc_heap_new w.drew _, ?_, hcm, ?_, ?_⟩⟩, rfl⟩⟩
    · omega
    · simp only [Array.size_append, List.size_toArray, List.nil_append, flatR_length, size_zeroCells]
      show m.length * 2 + (_ - (0 + m.length)) * 2 = _ * 2
      omega
    · simp [flatR_length]
/-- The second: onto a row of some ranges. -/
theorem app_row (ty : TypeId) (x : Value) (hown : RowJ B w v l) (hs : Rg w x m) (hl : l.length ≤ 50000) (hm : m.length ≤ 50000) (hB : B ≤ w.heap.size) :
    ∃ v' w', (Builtin.append_ #[23, 23] ty #[v, x]).run Tryz.prog w = .ok v' w' ∧ RowJ B w' v' (l ++ m) ∧ w.grownBy w' v.ownBlock := by
  obtain ⟨i0, hi, hz0, hz1, hz2⟩ := info_parts info_range
  have fin : ∀ {v' : Value} {w' : World}, w'.ownsRow B 42 2 v' (l.length + m.length) (flatR l ++ flatR m) → RowJ B w' v' (l ++ m) := fun h => by
    unfold RowJ; rw [List.length_append, flatR_append]; exact h
  have own : ∀ (ad : Addr) (c : Nat), (∀ j u, (flatR m)[j]? = some u → w.cell? (ad.add j) = some u) → x = .slice (some ad) m.length c → ∃ v' w', (Builtin.append_ #[23, 23] ty #[v, x]).run Tryz.prog w = .ok v' w' ∧ RowJ B w' v' (l ++ m) ∧ w.grownBy w' v.ownBlock := by
    rintro ad c hc rfl
    obtain ⟨v', w', hr, ho, hg, _⟩ := run_append_own (P := Tryz.prog) w B 23 ty 42 i0 (.agg #[.int .i64 0, .int .i64 0]) 2 16 Tryz.underlying23 hi hz0 hz1 hz2 rfl (by decide) v l.length (flatR l) hown ad m.length c (flatR m) (flatR_length m) hc (flatR_one m) (by unfold maxLen; omega) (by omega) hB
    exact ⟨v', w', hr, fin ho, hg⟩
  obtain ⟨a, c, rfl, h1, h2, h3⟩ := hs
  rcases h3 with rfl | ⟨b, off, rfl, hb, hc⟩
  · cases a with
    | some ad => exact own ad c (fun j u h => by simp [flatR] at h) rfl
    | none =>
      refine ⟨v, w, ?_, by rw [List.append_nil]; exact hown, ⟨rfl, rfl, rfl, Nat.le_refl _, fun _ _ _ => rfl⟩⟩
      have hs := Go.Src.ofNil (P := Tryz.prog) (w := w) (size := i0.size) (tx := 23) Tryz.underlying23 c
      rcases hown.2 with ⟨rfl, h0⟩ | ⟨g, cap, cur, rfl, _, hg, hnc, _⟩
      · simp [Builtin.append_, run_underlying Tryz.underlying23, sizeOf, typeInfo, hi, Builtin.lenOf, Builtin.firstCells]
      · have := run_append_room_src (P := Tryz.prog) (w := w) 23 23 ty 42 i0 Tryz.underlying23 hi g 0 l.length cap (.slice none 0 c) 0 [] hs (by omega) (fun j h => by simp at h) (fun j h => by simp at h)
        simpa [World.setCells] using this
  · exact own ⟨b, off, none⟩ c (rg_cellsj hc) rfl
/-- A row, read, lies on where another block is written. -/
theorem rg_grown (h : Rg w v l) {g : Nat} (hg : w.grownBy w2 (some g)) (hn : ∀ a n c, v = .slice (some a) n c → l ≠ [] → a.block ≠ g) : Rg w2 v l := by
  obtain ⟨a, cap, hv, hl, hm, h⟩ := h
  refine ⟨a, cap, hv, hl, hm, ?_⟩
  rcases h with h | ⟨b, off, rfl, hlt, hc⟩
  · exact .inl h
  · by_cases he : l = []
    · exact .inl he
    · have hbg : b ≠ g := hn _ _ _ hv he
      have hbl : w2.heap[b]? = w.heap[b]? := hg.block b hlt (fun e => hbg (Option.some.inj e))
      refine .inr ⟨b, off, rfl, Nat.lt_of_lt_of_le hlt hg.size, fun k hk => ?_⟩
      obtain ⟨h1, h2⟩ := hc k hk
      have c1 : ∀ o, w2.cell? ⟨b, o, none⟩ = w.cell? ⟨b, o, none⟩ := fun o => World.cell?_of_block (a := ⟨b, o, none⟩) hbl
      exact ⟨(c1 _).trans h1, (c1 _).trans h2⟩
/-- A row of some ranges is no block that holds no number. -/
theorem rg_off (h : Rg w v l) {g : Nat} {cs : Array Value} {T : TypeId} {fr : Nat × Nat} (hg : w.heap[g]? = some (.cells cs T fr)) (hcs : ∀ (j : Nat) (x : Int), cs[j]? ≠ some (Value.int .i64 x)) : ∀ a n c, v = .slice (some a) n c → l ≠ [] → a.block ≠ g := by
  rintro a n c rfl hl e
  obtain ⟨a', cap, hv, _, _, h⟩ := h
  rcases h with h | ⟨b, off, rfl, hlt, hc⟩
  · exact hl h
  · injection hv with e1 _ _
    injection e1 with e1
    subst e1
    obtain rfl : b = g := e
    have h1 := (hc 0 (List.length_pos_iff.2 hl)).1
    have h2 : w.cell? ⟨b, off + 0 * 2, none⟩ = cs[off + 0 * 2]? := by simp [World.cell?, hg]
    exact hcs _ _ (h2.symm.trans h1)
end
end Go.Proofs.YtfceifmhlmiiiaaGreatDoor
