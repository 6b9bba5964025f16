/-
  Package header's headOf: over this seat's translation; no condition but that the text is no longer than a slice may be.
-/
import Derived.Test.YtaljenjnedijgaaHcp
namespace Go.Proofs.Ytaljenjnedijgaa
open Go.RowKit

/-- A header's octets as they are kept: octets 8 and 9 as far as they count. -/
def hx (s : ByteArray) (i : Nat) : Int := if i = 8 then y8 s else if i = 9 then y9 s else oct s i
def zx (_ : Nat) : Int := 0
theorem mag_false {s : ByteArray} (h : magB s = false) (hs : 16 ≤ s.size) : ¬ (oct s 0 = 78 ∧ oct s 1 = 69 ∧ oct s 2 = 83 ∧ oct s 3 = 26) := by
  rintro ⟨a, b, c, d⟩
  simp [magB, hs, a, b, c, d] at h
theorem mag_true {s : ByteArray} (h : magB s = true) : 16 ≤ s.size ∧ oct s 0 = 78 ∧ oct s 1 = 69 ∧ oct s 2 = 83 ∧ oct s 3 = 26 := by
  simp only [magB, Bool.and_eq_true, decide_eq_true_eq] at h
  exact ⟨h.1.1.1.1, h.1.1.1.2, h.1.1.2, h.1.2, h.2⟩
theorem info_oct : (Try.prog.info? 5).map (·.size) = some 1 := by kernel_rfl
theorem copy_zero (w : World) (ty : TypeId) (g : Nat) (s : ByteArray) (hs : 16 ≤ s.size) (hB : w.heap.size ≤ g) (w0 : World) (hw : Below w.heap.size w w0) (hg : w0.heap[g]? = some (.cells #[.int .u8 0, .int .u8 0, .int .u8 0, .int .u8 0, .int .u8 0, .int .u8 0, .int .u8 0, .int .u8 0, .int .u8 0, .int .u8 0, .int .u8 0, .int .u8 0, .int .u8 0, .int .u8 0, .int .u8 0, .int .u8 0] 45)) :
    ∃ w1, (Builtin.copy_ #[30, 9] ty #[.slice (some ⟨g, 0, none⟩) 16 16, .string s]).run Try.prog w0 = .ok (goInt 16) w1 ∧ HD w1 g (oct s) ∧ Below w.heap.size w w1 ∧ w1.heap.size = w0.heap.size ∧ (∀ k, k ≠ g → w1.heap[k]? = w0.heap[k]?) := by
  have h := run_copy_str (P := Try.prog) w0 30 9 ty 5 g 16 s _ _ Try.underlying30 info_oct hg (by rfl)
  have hk : Nat.min s.size 16 = 16 := Nat.min_eq_right hs
  rw [hk, octs16 s hs] at h
  refine ⟨_, h, ⟨?_⟩, below_setRow hw hB _, by simp, fun k hk => setRow_other _ g k _ hk⟩
  have := setRow_heap w0 g _ ([.int .u8 (oct s 0), .int .u8 (oct s 1), .int .u8 (oct s 2), .int .u8 (oct s 3), .int .u8 (oct s 4), .int .u8 (oct s 5), .int .u8 (oct s 6), .int .u8 (oct s 7), .int .u8 (oct s 8), .int .u8 (oct s 9), .int .u8 (oct s 10), .int .u8 (oct s 11), .int .u8 (oct s 12), .int .u8 (oct s 13), .int .u8 (oct s 14), .int .u8 (oct s 15)] : List Value).toArray _ _ hg
  exact this
theorem copy_short (w : World) (ty : TypeId) (g : Nat) (s : ByteArray) (hs : s.size < 16) (hB : w.heap.size ≤ g) (w0 : World) (hw : Below w.heap.size w w0) (hg : w0.heap[g]? = some (.cells #[.int .u8 0, .int .u8 0, .int .u8 0, .int .u8 0, .int .u8 0, .int .u8 0, .int .u8 0, .int .u8 0, .int .u8 0, .int .u8 0, .int .u8 0, .int .u8 0, .int .u8 0, .int .u8 0, .int .u8 0, .int .u8 0] 45)) :
    ∃ w1, (Builtin.copy_ #[30, 9] ty #[.slice (some ⟨g, 0, none⟩) 16 16, .string s]).run Try.prog w0 = .ok (goInt s.size) w1 ∧ Below w.heap.size w w1 ∧ w1.heap.size = w0.heap.size ∧ (∀ k, k ≠ g → w1.heap[k]? = w0.heap[k]?) := by
  have h := run_copy_str (P := Try.prog) w0 30 9 ty 5 g 16 s _ _ Try.underlying30 info_oct hg (by rfl)
  have hk : Nat.min s.size 16 = s.size := Nat.min_eq_left (by omega)
  rw [hk] at h
  exact ⟨_, h, below_setRow hw hB _, by simp, fun k hk => setRow_other _ g k _ hk⟩
set_option maxRecDepth 100000 in
set_option maxHeartbeats 2000000 in
theorem hhead_short (s : ByteArray) (w : World) (hs : s.size < 16) : Calls Try.prog 15 #[.string s] w fun e w' => e = .returned (.tuple #[hdV zx, .bool false]) ∧ Below w.heap.size w w' := by
  have hB0 : Below w.heap.size w ((w.alloc (.cells #[.int .u8 0, .int .u8 0, .int .u8 0, .int .u8 0, .int .u8 0, .int .u8 0, .int .u8 0, .int .u8 0, .int .u8 0, .int .u8 0, .int .u8 0, .int .u8 0, .int .u8 0, .int .u8 0, .int .u8 0, .int .u8 0] 45)).alloc (.cells #[.int .u8 0, .int .u8 0, .int .u8 0, .int .u8 0, .int .u8 0, .int .u8 0, .int .u8 0, .int .u8 0, .int .u8 0, .int .u8 0, .int .u8 0, .int .u8 0, .int .u8 0, .int .u8 0, .int .u8 0, .int .u8 0] 45)) := (by repeat' (first | exact Below.refl _ _ | (refine Below.setCell ?_ (by first | (simp; done) | (simp; omega) | omega) _) | (refine Below.drew ?_) | (refine Below.drewN ?_ _) | (refine Below.alloc ?_ (by first | (simp; done) | (simp; omega) | omega) _)))
  have hg : ((w.alloc (.cells #[.int .u8 0, .int .u8 0, .int .u8 0, .int .u8 0, .int .u8 0, .int .u8 0, .int .u8 0, .int .u8 0, .int .u8 0, .int .u8 0, .int .u8 0, .int .u8 0, .int .u8 0, .int .u8 0, .int .u8 0, .int .u8 0] 45)).alloc (.cells #[.int .u8 0, .int .u8 0, .int .u8 0, .int .u8 0, .int .u8 0, .int .u8 0, .int .u8 0, .int .u8 0, .int .u8 0, .int .u8 0, .int .u8 0, .int .u8 0, .int .u8 0, .int .u8 0, .int .u8 0, .int .u8 0] 45)).heap[w.heap.size + 1]? = some (.cells #[.int .u8 0, .int .u8 0, .int .u8 0, .int .u8 0, .int .u8 0, .int .u8 0, .int .u8 0, .int .u8 0, .int .u8 0, .int .u8 0, .int .u8 0, .int .u8 0, .int .u8 0, .int .u8 0, .int .u8 0, .int .u8 0] 45) := by
    have := World.alloc_heap_new (w.alloc (.cells #[.int .u8 0, .int .u8 0, .int .u8 0, .int .u8 0, .int .u8 0, .int .u8 0, .int .u8 0, .int .u8 0, .int .u8 0, .int .u8 0, .int .u8 0, .int .u8 0, .int .u8 0, .int .u8 0, .int .u8 0, .int .u8 0] 45)) (.cells #[.int .u8 0, .int .u8 0, .int .u8 0, .int .u8 0, .int .u8 0, .int .u8 0, .int .u8 0, .int .u8 0, .int .u8 0, .int .u8 0, .int .u8 0, .int .u8 0, .int .u8 0, .int .u8 0, .int .u8 0, .int .u8 0] 45)
    simpa using this
  obtain ⟨w1, hrun, hB1, hz1, hk1⟩ := copy_short w 3 (w.heap.size + 1) s hs (by omega) _ hB0 hg
  have hz1' : w1.heap.size = w.heap.size + 1 + 1 := by rw [hz1]; simp
  have hlt : (s.size : Int) < 16 := by omega
  have Z : HD w1 w.heap.size zx := ((HD.zero w).alloc _).keep (hk1 _ (by omega))
  (skip); have Zz := Z.lt; have Z0 := Z.at 0 (by decide); have Z1 := Z.at 1 (by decide); have Z2 := Z.at 2 (by decide); have Z3 := Z.at 3 (by decide); have Z4 := Z.at 4 (by decide); have Z5 := Z.at 5 (by decide); have Z6 := Z.at 6 (by decide); have Z7 := Z.at 7 (by decide); have Z8 := Z.at 8 (by decide); have Z9 := Z.at 9 (by decide); have Z10 := Z.at 10 (by decide); have Z11 := Z.at 11 (by decide); have Z12 := Z.at 12 (by decide); have Z13 := Z.at 13 (by decide); have Z14 := Z.at 14 (by decide); have Z15 := Z.at 15 (by decide); have Zf := Z.free
  unfold zx at Z0 Z1 Z2 Z3 Z4 Z5 Z6 Z7 Z8 Z9 Z10 Z11 Z12 Z13 Z14 Z15
  clear hB0 hg hz1 hk1 Z
  go_enter Try.func15, Try.ntmps15
  go_wp2_with (refine wpList_copy_known _ rfl _ _ _ _ rfl _ _ rfl rfl hrun ?_)
  refine bodyPost_ret (v := .tuple #[hdV zx, .bool false]) (by simp [results, Try.results15, hdV, zx, go_sem, Z0, Z1, Z2, Z3, Z4, Z5, Z6, Z7, Z8, Z9, Z10, Z11, Z12, Z13, Z14, Z15]) rfl ⟨rfl, ?_⟩
  exact below_set16 hB1 (Nat.le_refl _) zx

end Go.Proofs.Ytaljenjnedijgaa
