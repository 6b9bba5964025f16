/-
  The document's own answers for scripts, and policies: which may be, and whether two are the same. Over this seat's translation; no condition but that numbers and ranges read as lists, and that a text is no longer than a slice may be.
-/
import Derived.Test.YtdafilfnmdfacaaSca
import Derived.Test.YtdafilfnmdfacaaBx4
import Derived.Test.YtdafilfnmdfacaaRpm
namespace Go.Proofs.Ytdafilfnmdfacaa
open Go.RowKit

set_option maxHeartbeats 2000000 in
theorem rsamei_ct (sv tv : Value) (l m : List Int) (w : World) (hr : Ri w sv l) (hs : Ri w tv m) :
    Calls Try.prog 24 #[sv, tv] w fun e w' => e = .returned (.bool (eqL l m)) ∧ Below w.heap.size w w' := by
  obtain ⟨sa, cap, rfl, hcap, hn, hr⟩ := hr
  obtain ⟨ta, cap2, rfl, hcap2, hn2, hs⟩ := hs
  unfold maxLen at hn hn2
  by_cases hl : l.length = m.length
  · have hw : ∀ k, k < l.length → ∃ b off c off2, sa = some ⟨b, off, none⟩ ∧ ta = some ⟨c, off2, none⟩ ∧ b < w.heap.size ∧ c < w.heap.size ∧ w.cell? ⟨b, off + k, none⟩ = some (.int .i64 (nthI l k)) ∧ w.cell? ⟨c, off2 + k, none⟩ = some (.int .i64 (nthI m k)) := fun k hk => by
      rcases hr with rfl | ⟨b, off, rfl, hb, hc⟩
      · simp at hk
      rcases hs with rfl | ⟨c, off2, rfl, hb2, hc2⟩
      · simp at hl; simp [hl] at hk
      exact ⟨b, off, c, off2, rfl, rfl, hb, hb2, hc k hk, hc2 k (by omega)⟩
    have Hw := Lib.hid hw
    clear hw hr hs
    have Hend := Lib.hid (eqL_end l m 0 hl)
    have Hno := Lib.hid (eqL_no l m 0)
    generalize hres : eqL l m = res at *
    clear hres
    have lm : m.length = l.length := hl.symm
    rw [lm] at hcap2
    simp only [lm]
    clear lm hl
    go_enter Try.func24, Try.ntmps24
    go_wp2
    go_loopw [5] (fun i wr => ∃ (k : Nat), k ≤ l.length ∧ i = .int .i64 k ∧ Hid (∀ j, j < k → l.getD j 0 = m.getD j 0) ∧ Below w.heap.size w wr) (fun i _ => l.length - (intOf i).toNat)
    case atStart => exact ⟨0, Nat.zero_le _, rfl, fun j hj => absurd hj (by omega), Below.refl _ _⟩
    case round =>
      obtain ⟨k, hk, rfl, he, hB⟩ := hrel
      by_cases hlt : k < l.length
      · obtain ⟨b, off, c, off2, rfl, rfl, hb, hb2, h1, g1⟩ := Hw.out k hlt
        rw [← hB.cell hb] at h1
        rw [← hB.cell hb2] at g1
        obtain ⟨x, hx⟩ : ∃ x, nthI l k = x := ⟨_, rfl⟩
        obtain ⟨y, hy⟩ : ∃ x, nthI m k = x := ⟨_, rfl⟩
        rw [hx] at h1
        rw [hy] at g1
        by_cases hq : x = y
        · subst hq
          have He : Hid (∀ j, j < k + 1 → l.getD j 0 = m.getD j 0) := fun j hj => by
            by_cases ej : j = k
            · subst ej; exact hx.trans hy.symm
            · exact he.out j (by omega)
          clear he hx hy Hw Hno Hend
          go_wp2_with fail
          go_quiet (fail)
          go_wp2
          go_roundw
          case rel => exact ⟨k + 1, by omega, by go_num, He, below_drewN hB _⟩
          case measure => simp [intOf]; omega
        · have Hres := Lib.hid (Hno.out k (by rw [show l.getD k 0 = x from hx, show m.getD k 0 = y from hy]; exact hq))
          clear he hx hy Hw Hno Hend
          go_wp2_with fail
          go_quiet (fail)
          go_wp2
          go_ret
          exact ⟨by rw [Hres.out]; rfl, below_drewN hB _⟩
      · have Hs := Lib.hid (Hend.out fun j hj => he.out j (by omega))
        clear Hw he Hno Hend
        go_wp2
        go_ret
        exact ⟨by rw [Hs.out]; rfl, hB⟩
  · rw [eqL_len l m hl]
    clear hr hs
    go_enter Try.func24, Try.ntmps24
    go_wp2
    go_ret
    exact ⟨rfl, (by repeat' (first | exact Below.refl _ _ | (refine Below.setCell ?_ (by first | (simp; done) | (simp; omega) | omega) _) | (refine Below.drew ?_) | (refine Below.drewN ?_ _) | (refine Below.alloc ?_ (by first | (simp; done) | (simp; omega) | omega) _)))⟩
end Go.Proofs.Ytdafilfnmdfacaa
