/-
  The document's Whole: how many octets stand ahead, what it is, and the error. Over this seat's translation; a text is no longer than a slice may be.
-/
import Derived.Test.YtmjadbljhnecbaaHra
import Derived.Test.YtmjadbljhnecbaaHrb
import Derived.Test.YtmjadbljhnecbaaHcs
import Derived.Test.YtmjadbljhnecbaaHch
namespace Go.Proofs.Ytmjadbljhnecbaa
open Go.RowKit

theorem run_index_oct (s : ByteArray) (i : Nat) (h : i < s.size) : ((s[i]'h).toNat : Int) = oct s i := oct_at s i h
set_option maxRecDepth 100000 in
set_option maxHeartbeats 4000000 in
theorem whole_mag (s : ByteArray) (w : World) (hz : s.size ≤ maxLen) (h : magB s = false) : Calls Try.prog 12 #[.string s] w fun e w' => e = .returned (.tuple #[.int .i64 0, crtV crt0, .int .i64 4]) ∧ Below w.heap.size w w' := by
  unfold maxLen at hz
  have Z := CX.new w crt0
  unfold crt0 at Z
  (skip); have Zz := Z.lt; have Z0 := Z.c0; have Z1 := Z.c1; have Z2 := Z.c2; have Z3 := Z.c3; have Z4 := Z.c4; have Z5 := Z.c5; have Z6 := Z.c6; have Z7 := Z.c7; have Z8 := Z.c8; (try dsimp only at Z0 Z1 Z2 Z3 Z4 Z5 Z6 Z7 Z8)
  have Zf := Z.free
  clear Z
  by_cases hs : 16 ≤ s.size
  · have l0 : 0 < s.size := by omega
    have l1 : 1 < s.size := by omega
    have l2 : 2 < s.size := by omega
    have l3 : 3 < s.size := by omega
    have e0 := oct_at s 0 l0
    have e1 := oct_at s 1 l1
    have e2 := oct_at s 2 l2
    have e3 := oct_at s 3 l3
    have hn := mag_false h hs
    have hs' : ¬ (s.size : Int) < 16 := by omega
    clear h
    generalize oct s 0 = a at *
    generalize oct s 1 = b at *
    generalize oct s 2 = c at *
    generalize oct s 3 = d at *
    by_cases h0 : a = 78
    · by_cases h1 : b = 69
      · by_cases h2 : c = 83
        · have h3 : ¬ d = 26 := fun h3 => hn ⟨h0, h1, h2, h3⟩
          clear hn
          go_enter Try.func12, Try.ntmps12
          go_wp2
          refine bodyPost_ret (v := .tuple #[.int .i64 0, crtV crt0, .int .i64 4]) (by simp [results, Try.results12, crtV, crt0, go_sem, Z0, Z1, Z2, Z3, Z4, Z5, Z6, Z7, Z8]) rfl ⟨rfl, (by repeat' (first | (with_reducible refine Below.setCell ?_ (by first | omega | (dsimp only; omega) | (simp; omega) | (simp; done)) _) | (with_reducible refine Below.alloc ?_ (by first | omega | (simp; omega) | (simp; done)) _) | (with_reducible refine Below.drew ?_) | (with_reducible exact Below.refl _ _)))⟩
        · clear hn
          go_enter Try.func12, Try.ntmps12
          go_wp2
          refine bodyPost_ret (v := .tuple #[.int .i64 0, crtV crt0, .int .i64 4]) (by simp [results, Try.results12, crtV, crt0, go_sem, Z0, Z1, Z2, Z3, Z4, Z5, Z6, Z7, Z8]) rfl ⟨rfl, (by repeat' (first | (with_reducible refine Below.setCell ?_ (by first | omega | (dsimp only; omega) | (simp; omega) | (simp; done)) _) | (with_reducible refine Below.alloc ?_ (by first | omega | (simp; omega) | (simp; done)) _) | (with_reducible refine Below.drew ?_) | (with_reducible exact Below.refl _ _)))⟩
      · clear hn
        go_enter Try.func12, Try.ntmps12
        go_wp2
        refine bodyPost_ret (v := .tuple #[.int .i64 0, crtV crt0, .int .i64 4]) (by simp [results, Try.results12, crtV, crt0, go_sem, Z0, Z1, Z2, Z3, Z4, Z5, Z6, Z7, Z8]) rfl ⟨rfl, (by repeat' (first | (with_reducible refine Below.setCell ?_ (by first | omega | (dsimp only; omega) | (simp; omega) | (simp; done)) _) | (with_reducible refine Below.alloc ?_ (by first | omega | (simp; omega) | (simp; done)) _) | (with_reducible refine Below.drew ?_) | (with_reducible exact Below.refl _ _)))⟩
    · clear hn
      go_enter Try.func12, Try.ntmps12
      go_wp2
      refine bodyPost_ret (v := .tuple #[.int .i64 0, crtV crt0, .int .i64 4]) (by simp [results, Try.results12, crtV, crt0, go_sem, Z0, Z1, Z2, Z3, Z4, Z5, Z6, Z7, Z8]) rfl ⟨rfl, (by repeat' (first | (with_reducible refine Below.setCell ?_ (by first | omega | (dsimp only; omega) | (simp; omega) | (simp; done)) _) | (with_reducible refine Below.alloc ?_ (by first | omega | (simp; omega) | (simp; done)) _) | (with_reducible refine Below.drew ?_) | (with_reducible exact Below.refl _ _)))⟩
  · have hs' : (s.size : Int) < 16 := by omega
    go_enter Try.func12, Try.ntmps12
    go_wp2
    refine bodyPost_ret (v := .tuple #[.int .i64 0, crtV crt0, .int .i64 4]) (by simp [results, Try.results12, crtV, crt0, go_sem, Z0, Z1, Z2, Z3, Z4, Z5, Z6, Z7, Z8]) rfl ⟨rfl, (by repeat' (first | (with_reducible refine Below.setCell ?_ (by first | omega | (dsimp only; omega) | (simp; omega) | (simp; done)) _) | (with_reducible refine Below.alloc ?_ (by first | omega | (simp; omega) | (simp; done)) _) | (with_reducible refine Below.drew ?_) | (with_reducible exact Below.refl _ _)))⟩
end Go.Proofs.Ytmjadbljhnecbaa
