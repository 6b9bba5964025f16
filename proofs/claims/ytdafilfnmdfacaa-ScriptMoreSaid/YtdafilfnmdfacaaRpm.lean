/-
  The document's own answer for which policies may be. Over this seat's translation; no condition but that ranges read as lists.
-/
import Derived.Test.YtdafilfnmdfacaaPck
import Derived.Test.YtdafilfnmdfacaaRgc
namespace Go.Proofs.Ytdafilfnmdfacaa
open Go.RowKit

set_option maxHeartbeats 2000000 in
theorem rwithin_ct (sv : Value) (l : List (Int × Int)) (n : Int) (w : World) (hr : Rg w sv l) :
    Calls Try.prog 13 #[sv, .int .i64 n] w fun e w' => e = .returned (.bool (areaMay n l)) ∧ Below w.heap.size w w' := by
  have KM : Hid (∀ wr, Below w.heap.size w wr → Calls Try.prog 26 #[sv] wr fun e w' => e = .returned (.bool (mayB 0 l)) ∧ Below wr.heap.size wr w') := fun wr h => rmay_ct sv l wr (hr.below h)
  obtain ⟨sa, cap, rfl, hcap, hn, hr⟩ := hr
  unfold maxLen at hn
  have hw : ∀ k, k < l.length → ∃ b off, sa = some ⟨b, off, none⟩ ∧ b < w.heap.size ∧ w.cell? ⟨b, off + k * 2 + 1, none⟩ = some (.int .i64 (nthR l k).2) := fun k hk => by
    rcases hr with rfl | ⟨b, off, rfl, hb, hc⟩
    · simp at hk
    exact ⟨b, off, rfl, hb, (hc k hk).2⟩
  have Hw := Lib.hid hw
  clear hw hr
  go_enter Try.func13, Try.ntmps13
  go_wp2
  go_loopw [5] (fun i wr => ∃ (k : Nat), k ≤ l.length ∧ i = .int .i64 k ∧ Hid (topB n (l.take k) = false) ∧ Below w.heap.size w wr) (fun i _ => l.length - (intOf i).toNat)
  case atStart => exact ⟨0, Nat.zero_le _, rfl, rfl, Below.refl _ _⟩
  case round =>
    obtain ⟨k, hk, rfl, ht, hB⟩ := hrel
    by_cases hlt : k < l.length
    · obtain ⟨b, off, rfl, hb, h2⟩ := Hw.out k hlt
      rw [← hB.cell hb] at h2
      obtain ⟨x, y, hxy⟩ : ∃ a b, nthR l k = (a, b) := ⟨_, _, rfl⟩
      rw [hxy] at h2
      dsimp only at h2
      by_cases hq : n ≤ y
      · have Hv : Hid (areaMay n l = false) := by rw [Hid, areaMay, topB_hit n l k x y hlt hxy hq]; simp
        clear hxy ht Hw KM
        go_wp2
        go_ret
        exact ⟨by rw [Hv.out]; rfl, hB⟩
      · have Ht := Lib.hid (topB_take n l k x y hlt hxy hq ht.out)
        clear hxy ht Hw KM
        go_wp2
        go_roundw
        case rel => exact ⟨k + 1, by omega, by go_num, Ht, hB⟩
        case measure => simp [intOf]; omega
    · have Hv : Hid (areaMay n l = mayB 0 l) := by
        have ht := ht.out
        rw [List.take_of_length_le (by omega)] at ht
        rw [Hid, areaMay, ht]; simp
      clear Hw ht
      go_wp2_with fail
      ((with_reducible refine (KM.out _ hB).mono ?_))
      rintro e w1 ⟨rfl, hB1⟩
      have B1 := hB.next hB1
      go_wp2
      go_ret
      exact ⟨by rw [Hv.out]; rfl, B1⟩
set_option maxHeartbeats 1000000 in
theorem rmayp_ct (p q : Bool) (sv tv : Value) (ra sa : List (Int × Int)) (w : World) (h1 : Rg w sv ra) (h2 : Rg w tv sa) :
    Calls Try.prog 6 #[polV p q sv tv] w fun e w' => e = .returned (.bool (polMay ra sa)) ∧ Below w.heap.size w w' := by
  have K1 : Hid (∀ wr, Below w.heap.size w wr → Calls Try.prog 13 #[sv, .int .i64 2048] wr fun e w' => e = .returned (.bool (areaMay 2048 ra)) ∧ Below wr.heap.size wr w') := fun wr h => rwithin_ct sv ra 2048 wr (h1.below h)
  have K2 : Hid (∀ wr, Below w.heap.size w wr → Calls Try.prog 13 #[tv, .int .i64 8192] wr fun e w' => e = .returned (.bool (areaMay 8192 sa)) ∧ Below wr.heap.size wr w') := fun wr h => rwithin_ct tv sa 8192 wr (h2.below h)
  obtain ⟨a1, c1, rfl, _⟩ := h1
  obtain ⟨a2, c2, rfl, _⟩ := h2
  unfold polMay
  obtain ⟨x, hx⟩ : ∃ x, areaMay 2048 ra = x := ⟨_, rfl⟩
  obtain ⟨y, hy⟩ : ∃ x, areaMay 8192 sa = x := ⟨_, rfl⟩
  rw [hx] at K1 ⊢
  rw [hy] at K2 ⊢
  clear hx hy
  generalize ra.length = n1 at *
  generalize sa.length = n2 at *
  unfold polV
  go_enter Try.func6, Try.ntmps6
  go_wp2_with fail
  ((with_reducible refine (K1.out _ (by repeat' (first | exact Below.refl _ _ | (refine Below.setCell ?_ (by first | (simp; done) | (simp; omega) | omega) _) | (refine Below.drew ?_) | (refine Below.drewN ?_ _) | (refine Below.alloc ?_ (by first | (simp; done) | (simp; omega) | omega) _)))).mono ?_))
  rintro e w1 ⟨rfl, hB⟩
  have B1 : Below w.heap.size w w1 := (by repeat' (first | exact Below.refl _ _ | (refine Below.setCell ?_ (by first | (simp; done) | (simp; omega) | omega) _) | (refine Below.drew ?_) | (refine Below.drewN ?_ _) | (refine Below.alloc ?_ (by first | (simp; done) | (simp; omega) | omega) _) | (refine Below.trans ?_ (Below.mono hB (by first | (simp; done) | (simp; omega) | omega)))))
  obtain ⟨hc, hf⟩ := bcell hB
  simp at hc hf
  clear hB
  cases x
  · go_wp2
    go_ret
    exact ⟨rfl, B1⟩
  · go_wp2_with fail
    ((with_reducible refine (K2.out _ B1).mono ?_))
    rintro e w2 ⟨rfl, hB⟩
    have B2 := B1.next hB
    go_wp2
    go_ret
    exact ⟨rfl, B2⟩
end Go.Proofs.Ytdafilfnmdfacaa
