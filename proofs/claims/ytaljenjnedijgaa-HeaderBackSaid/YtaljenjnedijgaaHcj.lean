/-
  Package header's headOf, of what begins as a header does: over this seat's translation; no condition.
-/
import Derived.Test.YtaljenjnedijgaaHcw
namespace Go.Proofs.Ytaljenjnedijgaa
open Go.RowKit

set_option maxRecDepth 100000 in
set_option maxHeartbeats 4000000 in
theorem hhead_yes0 (s : ByteArray) (w : World) (hm : magB s = true) (h7 : secK (oct s 7) = false) : Calls Try.prog 15 #[.string s] w fun e w' => e = .returned (.tuple #[hdV (hx s), .bool true]) ∧ Below w.heap.size w w' := by
  obtain ⟨hs, m0, m1, m2, m3⟩ := mag_true hm
  have hB0 : Below w.heap.size w ((w.alloc (.cells #[.int .u8 0, .int .u8 0, .int .u8 0, .int .u8 0, .int .u8 0, .int .u8 0, .int .u8 0, .int .u8 0, .int .u8 0, .int .u8 0, .int .u8 0, .int .u8 0, .int .u8 0, .int .u8 0, .int .u8 0, .int .u8 0] 45)).alloc (.cells #[.int .u8 0, .int .u8 0, .int .u8 0, .int .u8 0, .int .u8 0, .int .u8 0, .int .u8 0, .int .u8 0, .int .u8 0, .int .u8 0, .int .u8 0, .int .u8 0, .int .u8 0, .int .u8 0, .int .u8 0, .int .u8 0] 45)) := (by repeat' (first | exact Below.refl _ _ | (refine Below.setCell ?_ (by first | (simp; done) | (simp; omega) | omega) _) | (refine Below.drew ?_) | (refine Below.drewN ?_ _) | (refine Below.alloc ?_ (by first | (simp; done) | (simp; omega) | omega) _)))
  have hg : ((w.alloc (.cells #[.int .u8 0, .int .u8 0, .int .u8 0, .int .u8 0, .int .u8 0, .int .u8 0, .int .u8 0, .int .u8 0, .int .u8 0, .int .u8 0, .int .u8 0, .int .u8 0, .int .u8 0, .int .u8 0, .int .u8 0, .int .u8 0] 45)).alloc (.cells #[.int .u8 0, .int .u8 0, .int .u8 0, .int .u8 0, .int .u8 0, .int .u8 0, .int .u8 0, .int .u8 0, .int .u8 0, .int .u8 0, .int .u8 0, .int .u8 0, .int .u8 0, .int .u8 0, .int .u8 0, .int .u8 0] 45)).heap[w.heap.size + 1]? = some (.cells #[.int .u8 0, .int .u8 0, .int .u8 0, .int .u8 0, .int .u8 0, .int .u8 0, .int .u8 0, .int .u8 0, .int .u8 0, .int .u8 0, .int .u8 0, .int .u8 0, .int .u8 0, .int .u8 0, .int .u8 0, .int .u8 0] 45) := by
    have := World.alloc_heap_new (w.alloc (.cells #[.int .u8 0, .int .u8 0, .int .u8 0, .int .u8 0, .int .u8 0, .int .u8 0, .int .u8 0, .int .u8 0, .int .u8 0, .int .u8 0, .int .u8 0, .int .u8 0, .int .u8 0, .int .u8 0, .int .u8 0, .int .u8 0] 45)) (.cells #[.int .u8 0, .int .u8 0, .int .u8 0, .int .u8 0, .int .u8 0, .int .u8 0, .int .u8 0, .int .u8 0, .int .u8 0, .int .u8 0, .int .u8 0, .int .u8 0, .int .u8 0, .int .u8 0, .int .u8 0, .int .u8 0] 45)
    simpa using this
  obtain ⟨w1, hrun, X, hB1, hz1, hk1⟩ := copy_zero w 3 (w.heap.size + 1) s hs (by omega) _ hB0 hg
  have hz1' : w1.heap.size = w.heap.size + 1 + 1 := by rw [hz1]; simp
  have Z : HD w1 w.heap.size zx := ((HD.zero w).alloc _).keep (hk1 _ (by omega))
  have hcv := conv4 w1 (w.heap.size + 1) (oct s) X
  rw [m0, m1, m2, m3, show strOfNums [78, 69, 83, 26] = ⟨#[78, 69, 83, 26]⟩ by rfl] at hcv
  have KS := fun wr => hsecond_ct (oct s) wr (oct_lo s 7) (oct_hi s 7)
  have KX := Lib.hid X
  have KZ := Lib.hid Z
  (skip); have Zz := Z.lt; have Z0 := Z.at 0 (by decide); have Z1 := Z.at 1 (by decide); have Z2 := Z.at 2 (by decide); have Z3 := Z.at 3 (by decide); have Z4 := Z.at 4 (by decide); have Z5 := Z.at 5 (by decide); have Z6 := Z.at 6 (by decide); have Z7 := Z.at 7 (by decide); have Z8 := Z.at 8 (by decide); have Z9 := Z.at 9 (by decide); have Z10 := Z.at 10 (by decide); have Z11 := Z.at 11 (by decide); have Z12 := Z.at 12 (by decide); have Z13 := Z.at 13 (by decide); have Z14 := Z.at 14 (by decide); have Z15 := Z.at 15 (by decide); have Zf := Z.free
  unfold zx at Z0 Z1 Z2 Z3 Z4 Z5 Z6 Z7 Z8 Z9 Z10 Z11 Z12 Z13 Z14 Z15
  (skip); have Xz := X.lt; have X0 := X.at 0 (by decide); have X1 := X.at 1 (by decide); have X2 := X.at 2 (by decide); have X3 := X.at 3 (by decide); have X4 := X.at 4 (by decide); have X5 := X.at 5 (by decide); have X6 := X.at 6 (by decide); have X7 := X.at 7 (by decide); have X8 := X.at 8 (by decide); have X9 := X.at 9 (by decide); have X10 := X.at 10 (by decide); have X11 := X.at 11 (by decide); have X12 := X.at 12 (by decide); have X13 := X.at 13 (by decide); have X14 := X.at 14 (by decide); have X15 := X.at 15 (by decide); have Xf := X.free
  clear hB0 hg hz1 hk1 Z X m0 m1 m2 m3
  unfold hdV at KS
  rw [h7] at KS
  have H7 := Lib.hid h7
  have HS := Lib.hid KS
  clear KS h7
  go_enter Try.func15, Try.ntmps15
  go_wp2_with (refine wpList_copy_known _ rfl _ _ _ _ rfl _ _ rfl rfl hrun ?_)
  ((with_reducible refine (HS.out _).mono ?_))
  rintro e w2 ⟨rfl, hB⟩
  have X := KX.out.next hB
  have Z := KZ.out.next hB
  have B := hB1.next hB
  clear Xz Xf X0 X1 X2 X3 X4 X5 X6 X7 X8 X9 X10 X11 X12 X13 X14 X15 Zz Zf Z0 Z1 Z2 Z3 Z4 Z5 Z6 Z7 Z8 Z9 Z10 Z11 Z12 Z13 Z14 Z15
  clear hB hcv hrun HS KX KZ
  (skip); have Xz := X.lt; have X0 := X.at 0 (by decide); have X1 := X.at 1 (by decide); have X2 := X.at 2 (by decide); have X3 := X.at 3 (by decide); have X4 := X.at 4 (by decide); have X5 := X.at 5 (by decide); have X6 := X.at 6 (by decide); have X7 := X.at 7 (by decide); have X8 := X.at 8 (by decide); have X9 := X.at 9 (by decide); have X10 := X.at 10 (by decide); have X11 := X.at 11 (by decide); have X12 := X.at 12 (by decide); have X13 := X.at 13 (by decide); have X14 := X.at 14 (by decide); have X15 := X.at 15 (by decide); have Xf := X.free; have Zz := Z.lt; have Z0 := Z.at 0 (by decide); have Z1 := Z.at 1 (by decide); have Z2 := Z.at 2 (by decide); have Z3 := Z.at 3 (by decide); have Z4 := Z.at 4 (by decide); have Z5 := Z.at 5 (by decide); have Z6 := Z.at 6 (by decide); have Z7 := Z.at 7 (by decide); have Z8 := Z.at 8 (by decide); have Z9 := Z.at 9 (by decide); have Z10 := Z.at 10 (by decide); have Z11 := Z.at 11 (by decide); have Z12 := Z.at 12 (by decide); have Z13 := Z.at 13 (by decide); have Z14 := Z.at 14 (by decide); have Z15 := Z.at 15 (by decide); have Zf := Z.free
  unfold zx at Z0 Z1 Z2 Z3 Z4 Z5 Z6 Z7 Z8 Z9 Z10 Z11 Z12 Z13 Z14 Z15
  clear X Z
  go_wp2
  have e8 : y8 s = 0 := by unfold y8; rw [H7.out]; rfl
  have e9 : y9 s = 0 := by unfold y9; rw [H7.out]; rfl
  refine bodyPost_ret (v := .tuple #[hdV (hx s), .bool true]) (by simp [results, Try.results15, hdV, hx, e8, e9, go_sem, Z0, Z1, Z2, Z3, Z4, Z5, Z6, Z7, Z8, Z9, Z10, Z11, Z12, Z13, Z14, Z15]) rfl ⟨rfl, ?_⟩
  have b8 : Below w.heap.size w (w2.setCell ⟨w.heap.size + 1, 8, none⟩ (.int .u8 0)) := B.setCell (p := ⟨w.heap.size + 1, 8, none⟩) (Nat.le_succ _) _
  have b9 : Below w.heap.size w ((w2.setCell ⟨w.heap.size + 1, 8, none⟩ (.int .u8 0)).setCell ⟨w.heap.size + 1, 9, none⟩ (.int .u8 0)) := b8.setCell (p := ⟨w.heap.size + 1, 9, none⟩) (Nat.le_succ _) _
  exact below_set16 b9 (Nat.le_refl _) (fun i => if i = 8 then 0 else if i = 9 then 0 else oct s i)
end Go.Proofs.Ytaljenjnedijgaa
