/-
  Package script's Ram and Save. Over this seat's translation; no condition but that numbers and ranges read as lists, and that a text is no longer than a slice may be.
-/
import Derived.Test.YtjiilcnbajcdhaaSca
import Derived.Test.YtjiilcnbajcdhaaMak
namespace Go.Proofs.Ytjiilcnbajcdhaa
open Go.RowKit

def MemP (n : Nat) (s : ByteArray) (d : List (Int × Int)) (w : World) (e : Ending) (w' : World) : Prop := ∃ v, e = .returned (.tuple #[v, .int .i64 0]) ∧ Rd w' v (mkL n s d) ∧ Below w.heap.size w w'
theorem okC_zero {p s : Bool} : okC p s = 0 ↔ p = true ∧ s = true := by cases p <;> cases s <;> decide
theorem polMay_iff {ra sa : List (Int × Int)} (h : polMay ra sa = true) : mayB 0 ra = true ∧ mayB 0 sa = true := by
  unfold polMay areaMay at h
  simp only [Bool.and_eq_true] at h
  exact ⟨h.1.1, h.2.1⟩
section
set_option maxRecDepth 100000
set_option maxHeartbeats 2000000
theorem sram_no (p q : Bool) (sv tv : Value) (ra sa : List (Int × Int)) (a s m : ByteArray) (rv : Value) (l : List Int) (w : World) (h1 : Rg w sv ra) (h2 : Rg w tv sa) (h3 : Ri w rv l) (ha : a.size ≤ maxLen) (hs : s.size ≤ maxLen) (hm : m.size ≤ maxLen) (hx : okC (polMay ra sa) (scrMay a l s m) ≠ 0) :
    Calls Try.prog 10 #[polV p q sv tv, scrV a rv s m] w fun e w' => e = .returned (.tuple #[.slice none 0 0, .int .i64 (okC (polMay ra sa) (scrMay a l s m))]) ∧ Below w.heap.size w w' := by
  have K1 : Hid (∀ wr, Below w.heap.size w wr → Calls Try.prog 28 #[polV p q sv tv, scrV a rv s m] wr fun e w' => e = .returned (.int .i64 (okC (polMay ra sa) (scrMay a l s m))) ∧ Below wr.heap.size wr w') := fun wr h => scheckp_ct p q sv tv ra sa a s m rv l wr (h1.below h) (h2.below h) (h3.below h) ha hs hm
  obtain ⟨a1, c1, rfl, _⟩ := h1
  obtain ⟨a2, c2, rfl, _⟩ := h2
  obtain ⟨a3, c3, rfl, _⟩ := h3
  generalize okC (polMay ra sa) (scrMay a l s m) = x at *
  clear ha hs hm
  generalize ra.length = n1 at *
  generalize sa.length = n2 at *
  generalize l.length = n3 at *
  unfold polV at K1 ⊢
  unfold scrV at K1 ⊢
  go_enter Try.func10, Try.ntmps10
  go_wp2_with fail
  ((with_reducible refine (K1.out _ (by repeat' (first | exact Below.refl _ _ | (refine Below.setCell ?_ (by first | (simp; done) | (simp; omega) | omega) _) | (refine Below.drew ?_) | (refine Below.drewN ?_ _) | (refine Below.alloc ?_ (by first | (simp; done) | (simp; omega) | omega) _)))).mono ?_))
  rintro e w1 ⟨rfl, hB⟩
  have B1 : Below w.heap.size w w1 := (by repeat' (first | exact Below.refl _ _ | (refine Below.setCell ?_ (by first | (simp; done) | (simp; omega) | omega) _) | (refine Below.drew ?_) | (refine Below.drewN ?_ _) | (refine Below.alloc ?_ (by first | (simp; done) | (simp; omega) | omega) _) | (refine Below.trans ?_ (Below.mono hB (by first | (simp; done) | (simp; omega) | omega)))))
  clear hB
  go_wp2
  go_ret2
  exact ⟨rfl, B1⟩
theorem sram_yes (p q : Bool) (sv tv : Value) (ra sa : List (Int × Int)) (a s m : ByteArray) (rv : Value) (l : List Int) (w : World) (h1 : Rg w sv ra) (h2 : Rg w tv sa) (h3 : Ri w rv l) (hp : polMay ra sa = true) (hy : scrMay a l s m = true) (ha : a.size ≤ maxLen) (hs : s.size ≤ maxLen) (hm : m.size ≤ maxLen) (hsz : m.size ≤ 2048) :
    Calls Try.prog 10 #[polV p q sv tv, scrV a rv s m] w (MemP 2048 m ra w) := by
  have K1 : Hid (∀ wr, Below w.heap.size w wr → Calls Try.prog 28 #[polV p q sv tv, scrV a rv s m] wr fun e w' => e = .returned (.int .i64 (okC (polMay ra sa) (scrMay a l s m))) ∧ Below wr.heap.size wr w') := fun wr h => scheckp_ct p q sv tv ra sa a s m rv l wr (h1.below h) (h2.below h) (h3.below h) ha hs hm
  rw [hp, hy] at K1
  have K2 : Hid (∀ wr, Below w.heap.size w wr → Calls Try.prog 29 #[.int .i64 2048, .string m, sv] wr (MakeYes 2048 m ra wr)) := fun wr h => make_yes 2048 m sv ra wr (h1.below h) (by decide) hsz (polMay_iff hp).1
  obtain ⟨a1, c1, rfl, _⟩ := h1
  obtain ⟨a2, c2, rfl, _⟩ := h2
  obtain ⟨a3, c3, rfl, _⟩ := h3
  clear ha hs hm hsz hp hy
  generalize ra.length = n1 at *
  generalize sa.length = n2 at *
  generalize l.length = n3 at *
  unfold polV at K1 ⊢
  unfold scrV at K1 ⊢
  simp only [okC, okS] at K1
  go_enter Try.func10, Try.ntmps10
  go_wp2_with fail
  ((with_reducible refine (K1.out _ (by repeat' (first | exact Below.refl _ _ | (refine Below.setCell ?_ (by first | (simp; done) | (simp; omega) | omega) _) | (refine Below.drew ?_) | (refine Below.drewN ?_ _) | (refine Below.alloc ?_ (by first | (simp; done) | (simp; omega) | omega) _)))).mono ?_))
  rintro e w1 ⟨rfl, hB⟩
  have B1 : Below w.heap.size w w1 := (by repeat' (first | exact Below.refl _ _ | (refine Below.setCell ?_ (by first | (simp; done) | (simp; omega) | omega) _) | (refine Below.drew ?_) | (refine Below.drewN ?_ _) | (refine Below.alloc ?_ (by first | (simp; done) | (simp; omega) | omega) _) | (refine Below.trans ?_ (Below.mono hB (by first | (simp; done) | (simp; omega) | omega)))))
  obtain ⟨hc, hf⟩ := bcell hB
  simp at hc hf
  clear hB
  go_wp2_with fail
  ((with_reducible refine (K2.out _ B1).mono ?_))
  rintro e w2 ⟨v, rfl, hv, hB⟩
  have B2 := B1.next hB
  have Hv := Lib.hid hv
  clear hv hB
  go_wp2
  go_ret2
  exact ⟨v, rfl, Hv.out, B2⟩
theorem ssave_no (p q : Bool) (sv tv : Value) (ra sa : List (Int × Int)) (a s m : ByteArray) (rv : Value) (l : List Int) (w : World) (h1 : Rg w sv ra) (h2 : Rg w tv sa) (h3 : Ri w rv l) (ha : a.size ≤ maxLen) (hs : s.size ≤ maxLen) (hm : m.size ≤ maxLen) (hx : okC (polMay ra sa) (scrMay a l s m) ≠ 0) :
    Calls Try.prog 11 #[polV p q sv tv, scrV a rv s m] w fun e w' => e = .returned (.tuple #[.slice none 0 0, .int .i64 (okC (polMay ra sa) (scrMay a l s m))]) ∧ Below w.heap.size w w' := by
  have K1 : Hid (∀ wr, Below w.heap.size w wr → Calls Try.prog 28 #[polV p q sv tv, scrV a rv s m] wr fun e w' => e = .returned (.int .i64 (okC (polMay ra sa) (scrMay a l s m))) ∧ Below wr.heap.size wr w') := fun wr h => scheckp_ct p q sv tv ra sa a s m rv l wr (h1.below h) (h2.below h) (h3.below h) ha hs hm
  obtain ⟨a1, c1, rfl, _⟩ := h1
  obtain ⟨a2, c2, rfl, _⟩ := h2
  obtain ⟨a3, c3, rfl, _⟩ := h3
  generalize okC (polMay ra sa) (scrMay a l s m) = x at *
  clear ha hs hm
  generalize ra.length = n1 at *
  generalize sa.length = n2 at *
  generalize l.length = n3 at *
  unfold polV at K1 ⊢
  unfold scrV at K1 ⊢
  go_enter Try.func11, Try.ntmps11
  go_wp2_with fail
  ((with_reducible refine (K1.out _ (by repeat' (first | exact Below.refl _ _ | (refine Below.setCell ?_ (by first | (simp; done) | (simp; omega) | omega) _) | (refine Below.drew ?_) | (refine Below.drewN ?_ _) | (refine Below.alloc ?_ (by first | (simp; done) | (simp; omega) | omega) _)))).mono ?_))
  rintro e w1 ⟨rfl, hB⟩
  have B1 : Below w.heap.size w w1 := (by repeat' (first | exact Below.refl _ _ | (refine Below.setCell ?_ (by first | (simp; done) | (simp; omega) | omega) _) | (refine Below.drew ?_) | (refine Below.drewN ?_ _) | (refine Below.alloc ?_ (by first | (simp; done) | (simp; omega) | omega) _) | (refine Below.trans ?_ (Below.mono hB (by first | (simp; done) | (simp; omega) | omega)))))
  clear hB
  go_wp2
  go_ret2
  exact ⟨rfl, B1⟩
theorem ssave_yes (p q : Bool) (sv tv : Value) (ra sa : List (Int × Int)) (a s m : ByteArray) (rv : Value) (l : List Int) (w : World) (h1 : Rg w sv ra) (h2 : Rg w tv sa) (h3 : Ri w rv l) (hp : polMay ra sa = true) (hy : scrMay a l s m = true) (ha : a.size ≤ maxLen) (hs : s.size ≤ maxLen) (hm : m.size ≤ maxLen) (hsz : s.size ≤ 8192) :
    Calls Try.prog 11 #[polV p q sv tv, scrV a rv s m] w (MemP 8192 s sa w) := by
  have K1 : Hid (∀ wr, Below w.heap.size w wr → Calls Try.prog 28 #[polV p q sv tv, scrV a rv s m] wr fun e w' => e = .returned (.int .i64 (okC (polMay ra sa) (scrMay a l s m))) ∧ Below wr.heap.size wr w') := fun wr h => scheckp_ct p q sv tv ra sa a s m rv l wr (h1.below h) (h2.below h) (h3.below h) ha hs hm
  rw [hp, hy] at K1
  have K2 : Hid (∀ wr, Below w.heap.size w wr → Calls Try.prog 29 #[.int .i64 8192, .string s, tv] wr (MakeYes 8192 s sa wr)) := fun wr h => make_yes 8192 s tv sa wr (h2.below h) (by decide) hsz (polMay_iff hp).2
  obtain ⟨a1, c1, rfl, _⟩ := h1
  obtain ⟨a2, c2, rfl, _⟩ := h2
  obtain ⟨a3, c3, rfl, _⟩ := h3
  clear ha hs hm hsz hp hy
  generalize ra.length = n1 at *
  generalize sa.length = n2 at *
  generalize l.length = n3 at *
  unfold polV at K1 ⊢
  unfold scrV at K1 ⊢
  simp only [okC, okS] at K1
  go_enter Try.func11, Try.ntmps11
  go_wp2_with fail
  ((with_reducible refine (K1.out _ (by repeat' (first | exact Below.refl _ _ | (refine Below.setCell ?_ (by first | (simp; done) | (simp; omega) | omega) _) | (refine Below.drew ?_) | (refine Below.drewN ?_ _) | (refine Below.alloc ?_ (by first | (simp; done) | (simp; omega) | omega) _)))).mono ?_))
  rintro e w1 ⟨rfl, hB⟩
  have B1 : Below w.heap.size w w1 := (by repeat' (first | exact Below.refl _ _ | (refine Below.setCell ?_ (by first | (simp; done) | (simp; omega) | omega) _) | (refine Below.drew ?_) | (refine Below.drewN ?_ _) | (refine Below.alloc ?_ (by first | (simp; done) | (simp; omega) | omega) _) | (refine Below.trans ?_ (Below.mono hB (by first | (simp; done) | (simp; omega) | omega)))))
  obtain ⟨hc, hf⟩ := bcell hB
  simp at hc hf
  clear hB
  go_wp2_with fail
  ((with_reducible refine (K2.out _ B1).mono ?_))
  rintro e w2 ⟨v, rfl, hv, hB⟩
  have B2 := B1.next hB
  have Hv := Lib.hid hv
  clear hv hB
  go_wp2
  go_ret2
  exact ⟨v, rfl, Hv.out, B2⟩
end
end Go.Proofs.Ytjiilcnbajcdhaa
