/-
  Package header's headOf, of sixteen octets that begin otherwise: over this seat's translation; no condition.
-/
import Derived.Test.YtaljenjnedijgaaHcw
namespace Go.Proofs.Ytaljenjnedijgaa
open Go.RowKit
set_option maxRecDepth 100000 in
set_option maxHeartbeats 2000000 in
theorem hhead_no (s : ByteArray) (w : World) (hs : 16 ≤ s.size) (hm : ¬ (oct s 0 = 78 ∧ oct s 1 = 69 ∧ oct s 2 = 83 ∧ oct s 3 = 26)) : Calls Try.prog 15 #[.string s] w fun e w' => e = .returned (.tuple #[hdV zx, .bool false]) ∧ Below w.heap.size w w' := by
  have hB0 : Below w.heap.size w ((w.alloc (.cells #[.int .u8 0, .int .u8 0, .int .u8 0, .int .u8 0, .int .u8 0, .int .u8 0, .int .u8 0, .int .u8 0, .int .u8 0, .int .u8 0, .int .u8 0, .int .u8 0, .int .u8 0, .int .u8 0, .int .u8 0, .int .u8 0] 45)).alloc (.cells #[.int .u8 0, .int .u8 0, .int .u8 0, .int .u8 0, .int .u8 0, .int .u8 0, .int .u8 0, .int .u8 0, .int .u8 0, .int .u8 0, .int .u8 0, .int .u8 0, .int .u8 0, .int .u8 0, .int .u8 0, .int .u8 0] 45)) := (by repeat' (first | exact Below.refl _ _ | (refine Below.setCell ?_ (by first | (simp; done) | (simp; omega) | omega) _) | (refine Below.drew ?_) | (refine Below.drewN ?_ _) | (refine Below.alloc ?_ (by first | (simp; done) | (simp; omega) | omega) _)))
  have hg : ((w.alloc (.cells #[.int .u8 0, .int .u8 0, .int .u8 0, .int .u8 0, .int .u8 0, .int .u8 0, .int .u8 0, .int .u8 0, .int .u8 0, .int .u8 0, .int .u8 0, .int .u8 0, .int .u8 0, .int .u8 0, .int .u8 0, .int .u8 0] 45)).alloc (.cells #[.int .u8 0, .int .u8 0, .int .u8 0, .int .u8 0, .int .u8 0, .int .u8 0, .int .u8 0, .int .u8 0, .int .u8 0, .int .u8 0, .int .u8 0, .int .u8 0, .int .u8 0, .int .u8 0, .int .u8 0, .int .u8 0] 45)).heap[w.heap.size + 1]? = some (.cells #[.int .u8 0, .int .u8 0, .int .u8 0, .int .u8 0, .int .u8 0, .int .u8 0, .int .u8 0, .int .u8 0, .int .u8 0, .int .u8 0, .int .u8 0, .int .u8 0, .int .u8 0, .int .u8 0, .int .u8 0, .int .u8 0] 45) := by
    have := World.alloc_heap_new (w.alloc (.cells #[.int .u8 0, .int .u8 0, .int .u8 0, .int .u8 0, .int .u8 0, .int .u8 0, .int .u8 0, .int .u8 0, .int .u8 0, .int .u8 0, .int .u8 0, .int .u8 0, .int .u8 0, .int .u8 0, .int .u8 0, .int .u8 0] 45)) (.cells #[.int .u8 0, .int .u8 0, .int .u8 0, .int .u8 0, .int .u8 0, .int .u8 0, .int .u8 0, .int .u8 0, .int .u8 0, .int .u8 0, .int .u8 0, .int .u8 0, .int .u8 0, .int .u8 0, .int .u8 0, .int .u8 0] 45)
    simpa using this
  obtain ⟨w1, hrun, X, hB1, hz1, hk1⟩ := copy_zero w 3 (w.heap.size + 1) s hs (by omega) _ hB0 hg
  have hz1' : w1.heap.size = w.heap.size + 1 + 1 := by rw [hz1]; simp
  have Z : HD w1 w.heap.size zx := ((HD.zero w).alloc _).keep (hk1 _ (by omega))
  have hcv := conv4 w1 (w.heap.size + 1) (oct s) X
  have hno := strOf4_no hm (oct_lo s 0) (oct_hi s 0) (oct_lo s 1) (oct_hi s 1) (oct_lo s 2) (oct_hi s 2) (oct_lo s 3) (oct_hi s 3)
  obtain ⟨S, hS⟩ : ∃ S, strOfNums [oct s 0, oct s 1, oct s 2, oct s 3] = S := ⟨_, rfl⟩
  rw [hS] at hcv hno
  have hne : (S.toList == [78, 69, 83, 26]) = false := toList_no hno
  (skip); have Zz := Z.lt; have Z0 := Z.at 0 (by decide); have Z1 := Z.at 1 (by decide); have Z2 := Z.at 2 (by decide); have Z3 := Z.at 3 (by decide); have Z4 := Z.at 4 (by decide); have Z5 := Z.at 5 (by decide); have Z6 := Z.at 6 (by decide); have Z7 := Z.at 7 (by decide); have Z8 := Z.at 8 (by decide); have Z9 := Z.at 9 (by decide); have Z10 := Z.at 10 (by decide); have Z11 := Z.at 11 (by decide); have Z12 := Z.at 12 (by decide); have Z13 := Z.at 13 (by decide); have Z14 := Z.at 14 (by decide); have Z15 := Z.at 15 (by decide); have Zf := Z.free
  unfold zx at Z0 Z1 Z2 Z3 Z4 Z5 Z6 Z7 Z8 Z9 Z10 Z11 Z12 Z13 Z14 Z15
  clear hB0 hg hz1 hk1 Z X hm hS hno
  go_enter Try.func15, Try.ntmps15
  go_wp2_with (refine wpList_copy_known _ rfl _ _ _ _ rfl _ _ rfl rfl hrun ?_)
  refine bodyPost_ret (v := .tuple #[hdV zx, .bool false]) (by simp [results, Try.results15, hdV, zx, go_sem, Z0, Z1, Z2, Z3, Z4, Z5, Z6, Z7, Z8, Z9, Z10, Z11, Z12, Z13, Z14, Z15]) rfl ⟨rfl, ?_⟩
  exact below_set16 hB1 (Nat.le_refl _) zx

end Go.Proofs.Ytaljenjnedijgaa
