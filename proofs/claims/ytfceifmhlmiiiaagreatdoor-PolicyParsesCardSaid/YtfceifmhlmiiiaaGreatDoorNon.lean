/-
  Package policy's None, and Secret; whether two policies are the same, as the document tells it. Over this seat's translation; no condition.
-/
import Derived.Test.YtfceifmhlmiiiaaGreatDoorPck
import Derived.Test.YtfceifmhlmiiiaaGreatDoorRgb
namespace Go.Proofs.YtfceifmhlmiiiaaGreatDoor
open Go.RowKit

theorem eq_ports (p q : Bool) (w : World) : (Op.equalIn 10000 22 (.agg #[.bool p, .bool q]) (.agg #[.bool false, .bool false])).run Tryz.prog w = .ok (!p && !q) w := by
  cases p <;> cases q <;> kernel_rfl
set_option maxRecDepth 100000 in
set_option maxHeartbeats 4000000 in
theorem none_ct (p q : Bool) (sv tv : Value) (ra sa : List (Int × Int)) (w : World) (hr : Rg w sv ra) (hs : Rg w tv sa) :
    Calls Tryz.prog 16 #[polV p q sv tv] w fun e w' => e = .returned (.bool ((!p && !q) && (ra.isEmpty && sa.isEmpty))) ∧ Below w.heap.size w w' := by
  obtain ⟨a1, c1, rfl, _⟩ := hr
  obtain ⟨a2, c2, rfl, _⟩ := hs
  unfold polV
  have he := eq_ports p q
  generalize (!p && !q) = pq at he ⊢
  have e1 : ra.isEmpty = ((ra.length : Int) == 0) := by cases ra <;> simp; omega
  have e2 : sa.isEmpty = ((sa.length : Int) == 0) := by cases sa <;> simp; omega
  rw [e1, e2]
  generalize ra.length = n1
  generalize sa.length = n2
  clear e1 e2
  cases pq
  · go_enter Tryz.func16, Tryz.ntmps16
    go_wp2
    go_ret
    exact ⟨rfl, (by repeat' (first | exact Below.refl _ _ | (refine Below.setCell ?_ (by first | (simp; done) | (simp; omega) | omega) _) | (refine Below.drew ?_) | (refine Below.drewN ?_ _) | (refine Below.alloc ?_ (by first | (simp; done) | (simp; omega) | omega) _)))⟩
  · cases h1 : ((n1 : Int) == 0)
    · go_enter Tryz.func16, Tryz.ntmps16
      go_wp2
      go_ret
      exact ⟨rfl, (by repeat' (first | exact Below.refl _ _ | (refine Below.setCell ?_ (by first | (simp; done) | (simp; omega) | omega) _) | (refine Below.drew ?_) | (refine Below.drewN ?_ _) | (refine Below.alloc ?_ (by first | (simp; done) | (simp; omega) | omega) _)))⟩
    · cases h2 : ((n2 : Int) == 0)
      all_goals
        go_enter Tryz.func16, Tryz.ntmps16
        go_wp2
        go_ret
        exact ⟨rfl, (by repeat' (first | exact Below.refl _ _ | (refine Below.setCell ?_ (by first | (simp; done) | (simp; omega) | omega) _) | (refine Below.drew ?_) | (refine Below.drewN ?_ _) | (refine Below.alloc ?_ (by first | (simp; done) | (simp; omega) | omega) _)))⟩
end Go.Proofs.YtfceifmhlmiiiaaGreatDoor
