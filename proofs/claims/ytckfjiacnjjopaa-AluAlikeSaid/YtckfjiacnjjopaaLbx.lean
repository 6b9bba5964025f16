/-
  Contracts of package label's functions that put bytes together, over this seat's translation. No condition but that a byte's value is from 0 to 255 where it is said.
-/
import Derived.Test.YtckfjiacnjjopaaLbl
namespace Go.Proofs.Ytckfjiacnjjopaa
open Go.RowKit

set_option maxHeartbeats 400000 in
theorem of_ct (v : Int) (sv : Value) (l : List (Int × Bool)) (w : World) (hr : Rd w sv l) :
    Calls Try.prog 47 #[.int .u8 v, sv] w fun e w' => e = .returned (.agg #[.int .u8 v, .bool (anyS l)]) ∧ Below w.heap.size w w' := by
  have hr' := fun o => hr.below ((Below.refl _ _).alloc (Nat.le_refl _) o)
  have Hr := Lib.hid hr'
  clear hr' hr
  go_enter Try.func47, Try.ntmps47
  go_wp2_with fail
  refine (any_ct _ l _ (Hr.out _)).mono ?_
  rintro e w1 ⟨rfl, hB⟩
  obtain ⟨hc, hf⟩ := bcell hB
  simp at hc hf
  go_wp2
  exact bodyPost_ret (v := .agg #[.int .u8 v, .bool (anyS l)]) (by simp [results, Try.results47, go_sem, hc]) rfl ⟨rfl, (by repeat' (first | exact Below.refl _ _ | (refine Below.setCell ?_ (by first | (simp; done) | (simp; omega) | omega) _) | (refine Below.drew ?_) | (refine Below.drewN ?_ _) | (refine Below.alloc ?_ (by first | (simp; done) | (simp; omega) | omega) _) | (refine Below.trans ?_ (Below.mono hB (by first | (simp; done) | (simp; omega) | omega)))))⟩

set_option maxHeartbeats 400000 in
theorem and_ct (a b : Int) (s t : Bool) (w : World) :
    Calls Try.prog 49 #[.agg #[.int .u8 a, .bool s], .agg #[.int .u8 b, .bool t]] w fun e w' => e = .returned (.agg #[.int .u8 (bits .and .u8 a b), .bool (s || t)]) ∧ Below w.heap.size w w' := by
  go_enter Try.func49, Try.ntmps49
  go_wp2_with fail
  refine (of_ct _ _ [(a, s), (b, t)] _ (rd2 (by simp) _ _ _ _ _)).mono ?_
  rintro e w1 ⟨rfl, hB⟩
  obtain ⟨hc, hf⟩ := bcell hB
  simp at hc hf
  rw [anyS_two]
  go_wp2
  exact bodyPost_ret (v := .agg #[.int .u8 (bits .and .u8 a b), .bool (s || t)]) (by simp [results, Try.results49, go_sem, hc]) rfl ⟨rfl, (by repeat' (first | exact Below.refl _ _ | (refine Below.setCell ?_ (by first | (simp; done) | (simp; omega) | omega) _) | (refine Below.drew ?_) | (refine Below.drewN ?_ _) | (refine Below.alloc ?_ (by first | (simp; done) | (simp; omega) | omega) _) | (refine Below.trans ?_ (Below.mono hB (by first | (simp; done) | (simp; omega) | omega)))))⟩
set_option maxHeartbeats 400000 in
theorem xor_ct (a b : Int) (s t : Bool) (w : World) :
    Calls Try.prog 50 #[.agg #[.int .u8 a, .bool s], .agg #[.int .u8 b, .bool t]] w fun e w' => e = .returned (.agg #[.int .u8 (bits .xor .u8 a b), .bool (s || t)]) ∧ Below w.heap.size w w' := by
  go_enter Try.func50, Try.ntmps50
  go_wp2_with fail
  refine (of_ct _ _ [(a, s), (b, t)] _ (rd2 (by simp) _ _ _ _ _)).mono ?_
  rintro e w1 ⟨rfl, hB⟩
  obtain ⟨hc, hf⟩ := bcell hB
  simp at hc hf
  rw [anyS_two]
  go_wp2
  exact bodyPost_ret (v := .agg #[.int .u8 (bits .xor .u8 a b), .bool (s || t)]) (by simp [results, Try.results50, go_sem, hc]) rfl ⟨rfl, (by repeat' (first | exact Below.refl _ _ | (refine Below.setCell ?_ (by first | (simp; done) | (simp; omega) | omega) _) | (refine Below.drew ?_) | (refine Below.drewN ?_ _) | (refine Below.alloc ?_ (by first | (simp; done) | (simp; omega) | omega) _) | (refine Below.trans ?_ (Below.mono hB (by first | (simp; done) | (simp; omega) | omega)))))⟩
end Go.Proofs.Ytckfjiacnjjopaa
