/-
  The laws' own Few: a policy of no more ranges than 20 of each kind. Over this seat's translation; no condition.
-/
import Derived.Test.YtdafilfnmdfacaaPck
import Derived.Test.YtdafilfnmdfacaaCla
import Derived.Deep.RegionLaw
namespace Go.Proofs.Ytdafilfnmdfacaa
open Go.RowKit

/-- A slice's first 20. -/
def cut20 : Value → Value
  | .slice a n c => .slice a (min n 20) c
  | v => v
theorem cut20_slice (a : Option Addr) (n c : Nat) : cut20 (.slice a n c) = .slice a (min n 20) c := rfl
theorem rg_cut20 {w : World} {sv : Value} {l : List (Int × Int)} (hr : Rg w sv l) : Rg w (cut20 sv) (l.take 20) := by
  obtain ⟨a, cap, rfl, hcap, hn, hr⟩ := hr
  rcases hr with rfl | ⟨b, off, rfl, hb, hc⟩
  · exact ⟨a, cap, by simp [cut20], by simp, hn, .inl (by simp)⟩
  · have h := Rg.take (min l.length 20) (by omega) hcap hn hb hc
    rw [show l.take (min l.length 20) = l.take 20 by rw [← List.take_take]; exact List.take_of_length_le (by simp; omega)] at h
    exact h
set_option maxHeartbeats 400000 in
theorem fewr_at (sv : Value) (l : List (Int × Int)) (w : World) (hr : Rg w sv l) : Calls Try.prog 12 #[sv] w fun e w' => e = .returned (cut20 sv) ∧ w = w' := by
  obtain ⟨a, cap, rfl, hcap, hn, hr⟩ := hr
  rw [cut20_slice]
  by_cases h : 20 < l.length
  · rcases hr with rfl | ⟨b, off, rfl, hb, hc⟩
    · simp at h
    unfold maxLen at hn
    clear hc hb
    rw [show min l.length 20 = 20 by omega]
    go_enter Try.func12, Try.ntmps12
    go_wp2
    go_ret
    exact ⟨rfl, rfl⟩
  · unfold maxLen at hn
    clear hr
    rw [show min l.length 20 = l.length by omega]
    go_enter Try.func12, Try.ntmps12
    go_wp2
    go_ret
    exact ⟨rfl, rfl⟩
set_option maxRecDepth 100000 in
set_option maxHeartbeats 2000000 in
theorem fewpol_ct (p q : Bool) (sv tv : Value) (ra sa : List (Int × Int)) (w : World) (h1 : Rg w sv ra) (h2 : Rg w tv sa) :
    Calls Try.prog 4 #[polV p q sv tv] w fun e w' => e = .returned (polV p q (cut20 sv) (cut20 tv)) ∧ Below w.heap.size w w' := by
  have K1 : Hid (∀ wr, Below w.heap.size w wr → Calls Try.prog 12 #[sv] wr fun e w' => e = .returned (cut20 sv) ∧ wr = w') := fun wr h => fewr_at _ _ wr (h1.below h)
  have K2 : Hid (∀ wr, Below w.heap.size w wr → Calls Try.prog 12 #[tv] wr fun e w' => e = .returned (cut20 tv) ∧ wr = w') := fun wr h => fewr_at _ _ wr (h2.below h)
  obtain ⟨a1, c1, rfl, _⟩ := h1
  obtain ⟨a2, c2, rfl, _⟩ := h2
  generalize ra.length = n1 at *
  generalize sa.length = n2 at *
  simp only [cut20] at K1 K2 ⊢
  generalize min n1 20 = m1 at *
  generalize min n2 20 = m2 at *
  unfold polV
  go_enter Try.func4, Try.ntmps4
  go_upto_region 1 with fail
  go_region_law (first | (go_simp; go_at_call 12; refine (K1.out _ ?hb1).mono ?_; (case hb1 => first | assumption | ((repeat' (first | exact Below.refl _ _ | assumption | (refine Below.drew ?_) | (refine Below.alloc ?_ (by first | (simp; done) | (simp; omega) | omega) _))); done)); rintro e w' ⟨rfl, rfl⟩) | (go_simp; go_at_call 12; refine (K2.out _ ?hb2).mono ?_; (case hb2 => first | assumption | ((repeat' (first | exact Below.refl _ _ | assumption | (refine Below.drew ?_) | (refine Below.alloc ?_ (by first | (simp; done) | (simp; omega) | omega) _))); done)); rintro e w' ⟨rfl, rfl⟩))
  all_goals
    go_wp2
    exact bodyPost_ret (v := .agg #[.bool p, .bool q, .slice a1 m1 c1, .slice a2 m2 c2]) (by simp [results, Try.results4, go_sem]) rfl ⟨rfl, (by repeat' (first | exact Below.refl _ _ | (refine Below.setCell ?_ (by first | (simp; done) | (simp; omega) | omega) _) | (refine Below.drew ?_) | (refine Below.drewN ?_ _) | (refine Below.alloc ?_ (by first | (simp; done) | (simp; omega) | omega) _)))⟩
end Go.Proofs.Ytdafilfnmdfacaa
