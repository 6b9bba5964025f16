/-
  The walk of PixelTells, closed. Over this seat's translation; no condition. (Written by gen_px.py.)
-/
import Derived.Test.YtkmmmnoipgdedaaPxa
namespace Go.Proofs.Ytkmmmnoipgdedaa
open Go.RowKit Go.Sort
set_option linter.unusedSimpArgs false
set_option linter.unusedVariables false
set_option maxRecDepth 20000

theorem pixelTells_walk (q : Pq) (sv : Value) (l : List (Int × Bool)) (w : World) (hr : Rd w sv l) (hb : bytP l) : Calls Try.prog 3 #[.agg (pqC q), sv] w fun e w' => e = .returned (.bool true) ∧ Below w.heap.size w w' := by
  obtain ⟨a, cap, rfl, hcap, hm, hr⟩ := hr
  by_cases h : 33 < l.length
  · exact pixelTells_in q _ (.slice a 33 cap) 0 false 1 w (fun wr _ => pcol_no a 33 cap q.i q.m q.l (.inl (by decide)) wr) (fun wr _ => rcol16_no a 33 cap q.i q.m q.l (.inl (by decide)) wr) ⟨a, l.length, cap, rfl, .inr ⟨h, by omega, hm, rfl⟩⟩
  · by_cases h2 : l.length = 32 ∧ w8 q.i < 32
    · obtain ⟨hl, hi⟩ := h2
      rcases hr with rfl | ⟨b, off, rfl, hlt, hc⟩
      · simp at hl
      obtain ⟨k, hk⟩ := Int.eq_ofNat_of_zero_le (w8_lt q.i).1
      have hk2 : k < 32 := by omega
      obtain ⟨c1, c2⟩ := hc k (by omega)
      obtain ⟨v, hv⟩ := w8_ex (hb k (by omega)).1 (hb k (by omega)).2
      rw [hv] at c1
      rw [hl] at hcap ⊢
      exact pixelTells_in q _ (.slice (some ⟨b, off, none⟩) 32 cap) (w8 (tintP v q.m)) ((nth l k).2 || q.l) 0 w
        (fun wr B => pcol_yes b off cap k q.i q.m v _ q.l hk hk2 hcap hm wr (Nat.lt_of_lt_of_le hlt B.size) ((B.cell (p := ⟨b, off + k * 2, none⟩) hlt).trans c1) ((B.cell (p := ⟨b, off + k * 2 + 1, none⟩) hlt).trans c2))
        (fun wr B => rcol16_yes b off cap k q.i q.m v _ q.l hk hk2 hcap hm wr (Nat.lt_of_lt_of_le hlt B.size) ((B.cell (p := ⟨b, off + k * 2, none⟩) hlt).trans c1) ((B.cell (p := ⟨b, off + k * 2 + 1, none⟩) hlt).trans c2))
        ⟨_, 32, cap, rfl, .inl ⟨by decide, rfl⟩⟩
    · have hn : l.length ≠ 32 ∨ 32 ≤ w8 q.i := by
        by_cases e : l.length = 32
        · exact .inr (by have := fun h => h2 ⟨e, h⟩; omega)
        · exact .inl e
      exact pixelTells_in q _ (.slice a l.length cap) 0 false 1 w (fun wr _ => pcol_no a _ cap q.i q.m q.l hn wr) (fun wr _ => rcol16_no a _ cap q.i q.m q.l hn wr) ⟨a, l.length, cap, rfl, .inl ⟨by omega, rfl⟩⟩
end Go.Proofs.Ytkmmmnoipgdedaa
