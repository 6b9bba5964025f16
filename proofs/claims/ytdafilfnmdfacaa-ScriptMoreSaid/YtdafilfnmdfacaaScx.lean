/-
  The laws' own awake. Over this seat's translation; no condition.
-/
import Derived.Test.YtdafilfnmdfacaaSca
namespace Go.Proofs.Ytdafilfnmdfacaa
open Go.RowKit

set_option maxRecDepth 100000 in
set_option maxHeartbeats 2500000 in
theorem sawake_ct (w : World) : Calls Try.prog 8 #[] w fun e w' => e = .returned (.bool true) ∧ Below w.heap.size w w' := by
  have r0 : ∀ W : World, Ri W (.slice none 0 0) [] := fun W => ri0 W
  have g0 : ∀ W : World, Rg W (.slice none 0 0) [] := fun W => rg0 W
  have K1 : Hid (∀ W, Calls Try.prog 14 #[scrV ⟨#[1, 2, 3, 4]⟩ (.slice none 0 0) ⟨#[]⟩ ⟨#[]⟩, .int .i64 1, .int .i64 0] W fun e w' => e = .returned (.int .u8 3) ∧ Below W.heap.size W w') := fun W => pad_ct _ _ _ none 0 0 1 0 W (by decide)
  have K2 : Hid (∀ W, Calls Try.prog 14 #[scrV ⟨#[1, 2, 3, 4]⟩ (.slice none 0 0) ⟨#[]⟩ ⟨#[]⟩, .int .i64 2, .int .i64 0] W fun e w' => e = .returned (.int .u8 0) ∧ Below W.heap.size W w') := fun W => pad_ct _ _ _ none 0 0 2 0 W (by decide)
  have K3 : Hid (∀ W, Calls Try.prog 15 #[scrV ⟨#[1, 2, 3, 4]⟩ (.slice none 0 0) ⟨#[]⟩ ⟨#[]⟩] W fun e w' => e = .returned (.int .i64 2) ∧ Below W.heap.size W w') := fun W => frames_ct _ _ _ none 0 0 W (by decide)
  have K4 : Hid (∀ (W : World) (b : Nat), b = W.heap.size → Calls Try.prog 16 #[scrV ⟨#[97, 98, 99, 100]⟩ (.slice (some ⟨b, 0, none⟩) 1 1) ⟨#[]⟩ ⟨#[]⟩] (W.alloc (.cells #[.int .i64 2] 3)) fun e w' => e = .returned (.int .i64 8) ∧ Below (W.alloc (.cells #[.int .i64 2] 3)).heap.size (W.alloc (.cells #[.int .i64 2] 3)) w') := fun W b hb => scheck_ct _ _ _ _ [2] _ (ri1 hb 2 _) (by decide) (by decide) (by decide)
  have K5 : Hid (∀ W, Calls Try.prog 9 #[polV true false (.slice none 0 0) (.slice none 0 0), scrV ⟨#[1, 2]⟩ (.slice none 0 0) ⟨#[]⟩ ⟨#[]⟩, scrV ⟨#[9, 2]⟩ (.slice none 0 0) ⟨#[]⟩ ⟨#[]⟩] W fun e w' => e = .returned (.bool true) ∧ Below W.heap.size W w') := fun W => salike_ct true false _ _ [] [] _ _ _ _ [] _ _ _ _ [] W (g0 W) (g0 W) (r0 W) (r0 W) (by decide) (by decide) (by decide) (by decide) (by decide) (by decide)
  have K6 : Hid (∀ W, Calls Try.prog 9 #[polV false false (.slice none 0 0) (.slice none 0 0), scrV ⟨#[1, 2]⟩ (.slice none 0 0) ⟨#[]⟩ ⟨#[]⟩, scrV ⟨#[9, 2]⟩ (.slice none 0 0) ⟨#[]⟩ ⟨#[]⟩] W fun e w' => e = .returned (.bool false) ∧ Below W.heap.size W w') := fun W => salike_ct false false _ _ [] [] _ _ _ _ [] _ _ _ _ [] W (g0 W) (g0 W) (r0 W) (r0 W) (by decide) (by decide) (by decide) (by decide) (by decide) (by decide)
  clear r0 g0
  unfold scrV at K1 K2 K3 K4 K5 K6
  unfold polV at K5 K6
  go_enter Try.func8, Try.ntmps8
  go_wp2_with fail
  ((with_reducible refine (K1.out _).mono ?_))
  rintro e w1 ⟨rfl, hB⟩
  have hb1 : Below w.heap.size w w1 := (by repeat' (first | exact Below.refl _ _ | (refine Below.setCell ?_ (by first | (simp; done) | (simp; omega) | omega) _) | (refine Below.drew ?_) | (refine Below.drewN ?_ _) | (refine Below.alloc ?_ (by first | (simp; done) | (simp; omega) | omega) _) | (refine Below.trans ?_ (Below.mono hB (by first | (simp; done) | (simp; omega) | omega)))))
  obtain ⟨hc1, hf1⟩ := bcell hB
  simp at hc1 hf1
  have z1 : w.heap.size + 2 ≤ w1.heap.size := by have := hB.size; simp at this; omega
  have za1 : w.heap.size < w1.heap.size := by omega
  have zb1 : w.heap.size + 1 < w1.heap.size := by omega
  clear hB
  go_wp2_with fail
  ((with_reducible refine (K2.out _).mono ?_))
  rintro e w2 ⟨rfl, hB⟩
  have hb2 : Below w.heap.size w w2 := hb1.next hB
  obtain ⟨hc2, hf2⟩ := bcell hB
  have z2 : w.heap.size + 2 ≤ w2.heap.size := by have := hB.size; omega
  have za2 : w.heap.size < w2.heap.size := by omega
  have zb2 : w.heap.size + 1 < w2.heap.size := by omega
  clear hB
  go_wp2_with fail
  ((with_reducible refine (K3.out _).mono ?_))
  rintro e w3 ⟨rfl, hB⟩
  have hb3 : Below w.heap.size w w3 := hb2.next hB
  obtain ⟨hc3, hf3⟩ := bcell hB
  have z3 : w.heap.size + 2 ≤ w3.heap.size := by have := hB.size; omega
  have za3 : w.heap.size < w3.heap.size := by omega
  have zb3 : w.heap.size + 1 < w3.heap.size := by omega
  clear hB
  go_wp2_with fail
  ((with_reducible refine (K4.out _ _ rfl).mono ?_))
  rintro e w4 ⟨rfl, hB⟩
  have hb4 : Below w.heap.size w w4 := hb3.next ((by repeat' (first | exact Below.refl _ _ | (refine Below.setCell ?_ (by first | (simp; done) | (simp; omega) | omega) _) | (refine Below.drew ?_) | (refine Below.drewN ?_ _) | (refine Below.alloc ?_ (by first | (simp; done) | (simp; omega) | omega) _) | (refine Below.trans ?_ (Below.mono hB (by first | (simp; done) | (simp; omega) | omega))))))
  obtain ⟨hc4, hf4⟩ := bcell hB
  simp at hc4 hf4
  have z4 : w.heap.size + 2 ≤ w4.heap.size := by have := hB.size; simp at this; omega
  have za4 : w.heap.size < w4.heap.size := by omega
  have zb4 : w.heap.size + 1 < w4.heap.size := by omega
  clear hB
  go_wp2_with fail
  ((with_reducible refine (K5.out _).mono ?_))
  rintro e w5 ⟨rfl, hB⟩
  have hb5 : Below w.heap.size w w5 := hb4.next hB
  obtain ⟨hc5, hf5⟩ := bcell hB
  have z5 : w.heap.size + 2 ≤ w5.heap.size := by have := hB.size; omega
  have za5 : w.heap.size < w5.heap.size := by omega
  have zb5 : w.heap.size + 1 < w5.heap.size := by omega
  clear hB
  go_wp2_with fail
  ((with_reducible refine (K6.out _).mono ?_))
  rintro e w6 ⟨rfl, hB⟩
  have hb6 := hb5.next hB
  clear hB
  go_wp2
  go_ret
  exact ⟨rfl, hb6⟩
end Go.Proofs.Ytdafilfnmdfacaa
