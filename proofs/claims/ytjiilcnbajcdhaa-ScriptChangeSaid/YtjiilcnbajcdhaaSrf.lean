/-
  The document's own answers for scripts, and policies: which may be, and whether two are the same. Over this seat's translation; no condition but that numbers and ranges read as lists, and that a text is no longer than a slice may be.
-/
import Derived.Test.YtjiilcnbajcdhaaSca
import Derived.Test.YtjiilcnbajcdhaaBx4
namespace Go.Proofs.Ytjiilcnbajcdhaa
open Go.RowKit

set_option maxHeartbeats 2000000 in
theorem rsamei_ct (sv tv : Value) (l m : List Int) (w : World) (hr : Ri w sv l) (hs : Ri w tv m) :
    Calls Try.prog 37 #[sv, tv] w fun e w' => e = .returned (.bool (eqL l m)) ∧ Below w.heap.size w w' := by
  obtain ⟨sa, cap, rfl, hcap, hn, hr⟩ := hr
  obtain ⟨ta, cap2, rfl, hcap2, hn2, hs⟩ := hs
  unfold maxLen at hn hn2
  by_cases hl : l.length = m.length
  · have hw : ∀ k, k < l.length → ∃ b off c off2, sa = some ⟨b, off, none⟩ ∧ ta = some ⟨c, off2, none⟩ ∧ b < w.heap.size ∧ c < w.heap.size ∧ w.cell? ⟨b, off + k, none⟩ = some (.int .i64 (nthI l k)) ∧ w.cell? ⟨c, off2 + k, none⟩ = some (.int .i64 (nthI m k)) := fun k hk => by
      rcases hr with rfl | ⟨b, off, rfl, hb, hc⟩
      · simp at hk
      rcases hs with rfl | ⟨c, off2, rfl, hb2, hc2⟩
      · simp at hl; simp [hl] at hk
      exact ⟨b, off, c, off2, rfl, rfl, hb, hb2, hc k hk, hc2 k (by omega)⟩
    have Hw := Lib.hid hw
    clear hw hr hs
    have Hend := Lib.hid (eqL_end l m 0 hl)
    have Hno := Lib.hid (eqL_no l m 0)
    generalize hres : eqL l m = res at *
    clear hres
    have lm : m.length = l.length := hl.symm
    rw [lm] at hcap2
    simp only [lm]
    clear lm hl
    go_enter Try.func37, Try.ntmps37
    go_wp2
    go_loopw [5] (fun i wr => ∃ (k : Nat), k ≤ l.length ∧ i = .int .i64 k ∧ Hid (∀ j, j < k → l.getD j 0 = m.getD j 0) ∧ Below w.heap.size w wr) (fun i _ => l.length - (intOf i).toNat)
    case atStart => exact ⟨0, Nat.zero_le _, rfl, fun j hj => absurd hj (by omega), Below.refl _ _⟩
    case round =>
      obtain ⟨k, hk, rfl, he, hB⟩ := hrel
      by_cases hlt : k < l.length
      · obtain ⟨b, off, c, off2, rfl, rfl, hb, hb2, h1, g1⟩ := Hw.out k hlt
        rw [← hB.cell hb] at h1
        rw [← hB.cell hb2] at g1
        obtain ⟨x, hx⟩ : ∃ x, nthI l k = x := ⟨_, rfl⟩
        obtain ⟨y, hy⟩ : ∃ x, nthI m k = x := ⟨_, rfl⟩
        rw [hx] at h1
        rw [hy] at g1
        by_cases hq : x = y
        · subst hq
          have He : Hid (∀ j, j < k + 1 → l.getD j 0 = m.getD j 0) := fun j hj => by
            by_cases ej : j = k
            · subst ej; exact hx.trans hy.symm
            · exact he.out j (by omega)
          clear he hx hy Hw Hno Hend
          go_wp2_with fail
          go_quiet (fail)
          go_wp2
          go_roundw
          case rel => exact ⟨k + 1, by omega, by go_num, He, below_drewN hB _⟩
          case measure => simp [intOf]; omega
        · have Hres := Lib.hid (Hno.out k (by rw [show l.getD k 0 = x from hx, show m.getD k 0 = y from hy]; exact hq))
          clear he hx hy Hw Hno Hend
          go_wp2_with fail
          go_quiet (fail)
          go_wp2
          go_ret
          exact ⟨by rw [Hres.out]; rfl, below_drewN hB _⟩
      · have Hs := Lib.hid (Hend.out fun j hj => he.out j (by omega))
        clear Hw he Hno Hend
        go_wp2
        go_ret
        exact ⟨by rw [Hs.out]; rfl, hB⟩
  · rw [eqL_len l m hl]
    clear hr hs
    go_enter Try.func37, Try.ntmps37
    go_wp2
    go_ret
    exact ⟨rfl, (by repeat' (first | exact Below.refl _ _ | (refine Below.setCell ?_ (by first | (simp; done) | (simp; omega) | omega) _) | (refine Below.drew ?_) | (refine Below.drewN ?_ _) | (refine Below.alloc ?_ (by first | (simp; done) | (simp; omega) | omega) _)))⟩
set_option maxHeartbeats 2000000 in
theorem rwithin_ct (sv : Value) (l : List (Int × Int)) (n : Int) (w : World) (hr : Rg w sv l) :
    Calls Try.prog 30 #[sv, .int .i64 n] w fun e w' => e = .returned (.bool (areaMay n l)) ∧ Below w.heap.size w w' := by
  have KM : Hid (∀ wr, Below w.heap.size w wr → Calls Try.prog 48 #[sv] wr fun e w' => e = .returned (.bool (mayB 0 l)) ∧ Below wr.heap.size wr w') := fun wr h => rmay_ct sv l wr (hr.below h)
  obtain ⟨sa, cap, rfl, hcap, hn, hr⟩ := hr
  unfold maxLen at hn
  have hw : ∀ k, k < l.length → ∃ b off, sa = some ⟨b, off, none⟩ ∧ b < w.heap.size ∧ w.cell? ⟨b, off + k * 2 + 1, none⟩ = some (.int .i64 (nthR l k).2) := fun k hk => by
    rcases hr with rfl | ⟨b, off, rfl, hb, hc⟩
    · simp at hk
    exact ⟨b, off, rfl, hb, (hc k hk).2⟩
  have Hw := Lib.hid hw
  clear hw hr
  go_enter Try.func30, Try.ntmps30
  go_wp2
  go_loopw [5] (fun i wr => ∃ (k : Nat), k ≤ l.length ∧ i = .int .i64 k ∧ Hid (topB n (l.take k) = false) ∧ Below w.heap.size w wr) (fun i _ => l.length - (intOf i).toNat)
  case atStart => exact ⟨0, Nat.zero_le _, rfl, rfl, Below.refl _ _⟩
  case round =>
    obtain ⟨k, hk, rfl, ht, hB⟩ := hrel
    by_cases hlt : k < l.length
    · obtain ⟨b, off, rfl, hb, h2⟩ := Hw.out k hlt
      rw [← hB.cell hb] at h2
      obtain ⟨x, y, hxy⟩ : ∃ a b, nthR l k = (a, b) := ⟨_, _, rfl⟩
      rw [hxy] at h2
      dsimp only at h2
      by_cases hq : n ≤ y
      · have Hv : Hid (areaMay n l = false) := by rw [Hid, areaMay, topB_hit n l k x y hlt hxy hq]; simp
        clear hxy ht Hw KM
        go_wp2
        go_ret
        exact ⟨by rw [Hv.out]; rfl, hB⟩
      · have Ht := Lib.hid (topB_take n l k x y hlt hxy hq ht.out)
        clear hxy ht Hw KM
        go_wp2
        go_roundw
        case rel => exact ⟨k + 1, by omega, by go_num, Ht, hB⟩
        case measure => simp [intOf]; omega
    · have Hv : Hid (areaMay n l = mayB 0 l) := by
        have ht := ht.out
        rw [List.take_of_length_le (by omega)] at ht
        rw [Hid, areaMay, ht]; simp
      clear Hw ht
      go_wp2_with fail
      ((with_reducible refine (KM.out _ hB).mono ?_))
      rintro e w1 ⟨rfl, hB1⟩
      have B1 := hB.next hB1
      go_wp2
      go_ret
      exact ⟨by rw [Hv.out]; rfl, B1⟩
set_option maxHeartbeats 1000000 in
theorem rmayp_ct (p q : Bool) (sv tv : Value) (ra sa : List (Int × Int)) (w : World) (h1 : Rg w sv ra) (h2 : Rg w tv sa) :
    Calls Try.prog 12 #[polV p q sv tv] w fun e w' => e = .returned (.bool (polMay ra sa)) ∧ Below w.heap.size w w' := by
  have K1 : Hid (∀ wr, Below w.heap.size w wr → Calls Try.prog 30 #[sv, .int .i64 2048] wr fun e w' => e = .returned (.bool (areaMay 2048 ra)) ∧ Below wr.heap.size wr w') := fun wr h => rwithin_ct sv ra 2048 wr (h1.below h)
  have K2 : Hid (∀ wr, Below w.heap.size w wr → Calls Try.prog 30 #[tv, .int .i64 8192] wr fun e w' => e = .returned (.bool (areaMay 8192 sa)) ∧ Below wr.heap.size wr w') := fun wr h => rwithin_ct tv sa 8192 wr (h2.below h)
  obtain ⟨a1, c1, rfl, _⟩ := h1
  obtain ⟨a2, c2, rfl, _⟩ := h2
  unfold polMay
  obtain ⟨x, hx⟩ : ∃ x, areaMay 2048 ra = x := ⟨_, rfl⟩
  obtain ⟨y, hy⟩ : ∃ x, areaMay 8192 sa = x := ⟨_, rfl⟩
  rw [hx] at K1 ⊢
  rw [hy] at K2 ⊢
  clear hx hy
  generalize ra.length = n1 at *
  generalize sa.length = n2 at *
  unfold polV
  go_enter Try.func12, Try.ntmps12
  go_wp2_with fail
  ((with_reducible refine (K1.out _ (by repeat' (first | exact Below.refl _ _ | (refine Below.setCell ?_ (by first | (simp; done) | (simp; omega) | omega) _) | (refine Below.drew ?_) | (refine Below.drewN ?_ _) | (refine Below.alloc ?_ (by first | (simp; done) | (simp; omega) | omega) _)))).mono ?_))
  rintro e w1 ⟨rfl, hB⟩
  have B1 : Below w.heap.size w w1 := (by repeat' (first | exact Below.refl _ _ | (refine Below.setCell ?_ (by first | (simp; done) | (simp; omega) | omega) _) | (refine Below.drew ?_) | (refine Below.drewN ?_ _) | (refine Below.alloc ?_ (by first | (simp; done) | (simp; omega) | omega) _) | (refine Below.trans ?_ (Below.mono hB (by first | (simp; done) | (simp; omega) | omega)))))
  obtain ⟨hc, hf⟩ := bcell hB
  simp at hc hf
  clear hB
  cases x
  · go_wp2
    go_ret
    exact ⟨rfl, B1⟩
  · go_wp2_with fail
    ((with_reducible refine (K2.out _ B1).mono ?_))
    rintro e w2 ⟨rfl, hB⟩
    have B2 := B1.next hB
    go_wp2
    go_ret
    exact ⟨rfl, B2⟩
end Go.Proofs.Ytjiilcnbajcdhaa
