/-
  Package policy's Secret. Over this seat's translation; no condition but that ranges read as lists.
-/
import Derived.Test.YtjiilcnbajcdhaaDoorPck
import Derived.Test.YtjiilcnbajcdhaaDoorClb
namespace Go.Proofs.YtjiilcnbajcdhaaDoor
open Go.RowKit

set_option maxHeartbeats 1000000 in
theorem psecport_ct (p q : Bool) (sv tv : Value) (k : Nat) (hk : k < 2) (w : World) :
    Calls Tryd.prog 5 #[polV p q sv tv, .int .i64 0, .int .i64 k] w fun e w' => e = .returned (.bool (if k = 0 then p else q)) ∧ Below w.heap.size w w' := by
  unfold polV
  match k, hk with
  | 0, _ =>
    rw [if_pos rfl]
    go_enter Tryd.func5, Tryd.ntmps5
    go_wp2
    go_ret
    exact ⟨rfl, (by repeat' (first | exact Below.refl _ _ | (refine Below.setCell ?_ (by first | (simp; done) | (simp; omega) | omega) _) | (refine Below.drew ?_) | (refine Below.drewN ?_ _) | (refine Below.alloc ?_ (by first | (simp; done) | (simp; omega) | omega) _)))⟩
  | 1, _ =>
    rw [if_neg (by omega)]
    go_enter Tryd.func5, Tryd.ntmps5
    go_wp2
    go_ret
    exact ⟨rfl, (by repeat' (first | exact Below.refl _ _ | (refine Below.setCell ?_ (by first | (simp; done) | (simp; omega) | omega) _) | (refine Below.drew ?_) | (refine Below.drewN ?_ _) | (refine Below.alloc ?_ (by first | (simp; done) | (simp; omega) | omega) _)))⟩
set_option maxHeartbeats 1000000 in
theorem psecram_ct (p q : Bool) (sv : Value) (tv : Value) (ra : List (Int × Int)) (x : Int) (w : World) (hr : Rg w sv ra) (htv : ∃ a n c, tv = .slice a n c) :
    Calls Tryd.prog 5 #[polV p q sv tv, .int .i64 1, .int .i64 x] w fun e w' => e = .returned (.bool (inB ra x)) ∧ Below w.heap.size w w' := by
  have Hi := fun o => in_ct sv x ra (w.alloc o) (hr.below ((Below.refl _ _).alloc (Nat.le_refl _) o))
  generalize inB ra x = r at *
  have Hi := Lib.hid Hi
  obtain ⟨a1, c1, rfl, _⟩ := hr
  obtain ⟨a2, n2, c2, rfl⟩ := htv
  generalize ra.length = n1 at *
  unfold polV
  go_enter Tryd.func5, Tryd.ntmps5
  go_wp2_with fail
  refine (Hi.out _).mono ?_
  rintro e w1 ⟨rfl, hB⟩
  go_wp2
  go_ret
  exact ⟨rfl, (by repeat' (first | exact Below.refl _ _ | (refine Below.setCell ?_ (by first | (simp; done) | (simp; omega) | omega) _) | (refine Below.drew ?_) | (refine Below.drewN ?_ _) | (refine Below.alloc ?_ (by first | (simp; done) | (simp; omega) | omega) _) | (refine Below.trans ?_ (Below.mono hB (by first | (simp; done) | (simp; omega) | omega)))))⟩
set_option maxHeartbeats 1000000 in
theorem psecsave_ct (p q : Bool) (sv : Value) (tv : Value) (ra : List (Int × Int)) (x : Int) (w : World) (hr : Rg w tv ra) (htv : ∃ a n c, sv = .slice a n c) :
    Calls Tryd.prog 5 #[polV p q sv tv, .int .i64 2, .int .i64 x] w fun e w' => e = .returned (.bool (inB ra x)) ∧ Below w.heap.size w w' := by
  have Hi := fun o => in_ct tv x ra (w.alloc o) (hr.below ((Below.refl _ _).alloc (Nat.le_refl _) o))
  generalize inB ra x = r at *
  have Hi := Lib.hid Hi
  obtain ⟨a1, c1, rfl, _⟩ := hr
  obtain ⟨a2, n2, c2, rfl⟩ := htv
  generalize ra.length = n1 at *
  unfold polV
  go_enter Tryd.func5, Tryd.ntmps5
  go_wp2_with fail
  refine (Hi.out _).mono ?_
  rintro e w1 ⟨rfl, hB⟩
  go_wp2
  go_ret
  exact ⟨rfl, (by repeat' (first | exact Below.refl _ _ | (refine Below.setCell ?_ (by first | (simp; done) | (simp; omega) | omega) _) | (refine Below.drew ?_) | (refine Below.drewN ?_ _) | (refine Below.alloc ?_ (by first | (simp; done) | (simp; omega) | omega) _) | (refine Below.trans ?_ (Below.mono hB (by first | (simp; done) | (simp; omega) | omega)))))⟩
end Go.Proofs.YtjiilcnbajcdhaaDoor
