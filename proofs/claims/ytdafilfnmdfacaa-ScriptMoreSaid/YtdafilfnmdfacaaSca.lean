/-
  Package script's check, its closures, and Alike. Over this seat's translation; no condition but that numbers and ranges read as lists, and that a text is no longer than a slice may be.
-/
import Derived.Test.YtdafilfnmdfacaaScq
namespace Go.Proofs.Ytdafilfnmdfacaa
open Go.RowKit

/-- What check tells. -/
def okC (p s : Bool) : Int := if p then okS s else 7
set_option maxHeartbeats 1000000 in
theorem scheckp_ct (p q : Bool) (sv tv : Value) (ra sa : List (Int × Int)) (a s m : ByteArray) (rv : Value) (l : List Int) (w : World) (h1 : Rg w sv ra) (h2 : Rg w tv sa) (h3 : Ri w rv l) (ha : a.size ≤ maxLen) (hs : s.size ≤ maxLen) (hm : m.size ≤ maxLen) :
    Calls Try.prog 17 #[polV p q sv tv, scrV a rv s m] w fun e w' => e = .returned (.int .i64 (okC (polMay ra sa) (scrMay a l s m))) ∧ Below w.heap.size w w' := by
  have K1 : Hid (∀ wr, Below w.heap.size w wr → Calls Try.prog 27 #[polV p q sv tv] wr fun e w' => e = .returned (.int .i64 (okE (polMay ra sa))) ∧ Below wr.heap.size wr w') := fun wr h => pcheck_ct p q sv tv ra sa wr (h1.below h) (h2.below h)
  have K2 : Hid (∀ wr, Below w.heap.size w wr → Calls Try.prog 16 #[scrV a rv s m] wr fun e w' => e = .returned (.int .i64 (okS (scrMay a l s m))) ∧ Below wr.heap.size wr w') := fun wr h => scheck_ct a s m rv l wr (h3.below h) ha hs hm
  obtain ⟨a1, c1, rfl, _⟩ := h1
  obtain ⟨a2, c2, rfl, _⟩ := h2
  obtain ⟨a3, c3, rfl, _⟩ := h3
  obtain ⟨x, hx⟩ : ∃ x, polMay ra sa = x := ⟨_, rfl⟩
  obtain ⟨y, hy⟩ : ∃ x, okS (scrMay a l s m) = x := ⟨_, rfl⟩
  rw [hx] at K1 ⊢
  rw [hy] at K2
  rw [okC, hy]
  clear hx hy ha hs hm
  generalize ra.length = n1 at *
  generalize sa.length = n2 at *
  generalize l.length = n3 at *
  unfold polV at K1 ⊢
  unfold scrV at K2 ⊢
  cases x
  · go_enter Try.func17, Try.ntmps17
    go_wp2_with fail
    ((with_reducible refine (K1.out _ (by repeat' (first | exact Below.refl _ _ | (refine Below.setCell ?_ (by first | (simp; done) | (simp; omega) | omega) _) | (refine Below.drew ?_) | (refine Below.drewN ?_ _) | (refine Below.alloc ?_ (by first | (simp; done) | (simp; omega) | omega) _)))).mono ?_))
    rintro e w1 ⟨rfl, hB⟩
    have hb1 : Below w.heap.size w w1 := (by repeat' (first | exact Below.refl _ _ | (refine Below.setCell ?_ (by first | (simp; done) | (simp; omega) | omega) _) | (refine Below.drew ?_) | (refine Below.drewN ?_ _) | (refine Below.alloc ?_ (by first | (simp; done) | (simp; omega) | omega) _) | (refine Below.trans ?_ (Below.mono hB (by first | (simp; done) | (simp; omega) | omega)))))
    simp only [okE]
    go_wp2
    go_ret
    exact ⟨rfl, hb1⟩
  · go_enter Try.func17, Try.ntmps17
    go_wp2_with fail
    ((with_reducible refine (K1.out _ (by repeat' (first | exact Below.refl _ _ | (refine Below.setCell ?_ (by first | (simp; done) | (simp; omega) | omega) _) | (refine Below.drew ?_) | (refine Below.drewN ?_ _) | (refine Below.alloc ?_ (by first | (simp; done) | (simp; omega) | omega) _)))).mono ?_))
    rintro e w1 ⟨rfl, hB⟩
    have hb1 : Below w.heap.size w w1 := (by repeat' (first | exact Below.refl _ _ | (refine Below.setCell ?_ (by first | (simp; done) | (simp; omega) | omega) _) | (refine Below.drew ?_) | (refine Below.drewN ?_ _) | (refine Below.alloc ?_ (by first | (simp; done) | (simp; omega) | omega) _) | (refine Below.trans ?_ (Below.mono hB (by first | (simp; done) | (simp; omega) | omega)))))
    obtain ⟨hc1, hf1⟩ := bcell hB
    simp at hc1 hf1
    simp only [okE]
    go_wp2_with fail
    ((with_reducible refine (K2.out _ hb1).mono ?_))
    rintro e w2 ⟨rfl, hB2⟩
    have hb2 := hb1.next hB2
    go_wp2
    go_ret
    exact ⟨rfl, hb2⟩
/-! ### the closures -/
set_option maxHeartbeats 1000000 in
theorem lowpads_ct (p q : Bool) (sv tv : Value) (B k : Nat) (w : World) (c0 : w.cell? ⟨B, 0, none⟩ = some (.bool p)) (c1 : w.cell? ⟨B, 1, none⟩ = some (.bool q)) (c2 : w.cell? ⟨B, 2, none⟩ = some sv) (c3 : w.cell? ⟨B, 3, none⟩ = some tv) :
    Calls Try.prog 19 #[.int .i64 ((k : Nat) : Int), .pointer (some ⟨B, 0, none⟩)] w fun e w' => e = .returned (.bool (!(if k % 2 = 0 then p else q))) ∧ Below w.heap.size w w' := by
  have hf := secport_ct p q sv tv (k % 2) (by omega) w
  generalize (if k % 2 = 0 then p else q) = r at *
  have Hf := Lib.hid hf
  unfold polV at Hf
  clear hf
  have e1 : Int.tmod (k : Int) 2 = ((k % 2 : Nat) : Int) := by
    rw [Int.tmod_eq_emod_of_nonneg (by omega)]; omega
  go_enter Try.func19, Try.ntmps19
  go_wp2_with fail
  refine Hf.out.mono ?_
  rintro e w1 ⟨rfl, hB⟩
  go_wp2
  go_ret
  exact ⟨rfl, hB⟩
set_option maxHeartbeats 1000000 in
theorem lowsave_ct (p q : Bool) (sv tv : Value) (sa : List (Int × Int)) (B k : Nat) (w : World) (c0 : w.cell? ⟨B, 0, none⟩ = some (.bool p)) (c1 : w.cell? ⟨B, 1, none⟩ = some (.bool q)) (c2 : w.cell? ⟨B, 2, none⟩ = some sv) (c3 : w.cell? ⟨B, 3, none⟩ = some tv) (hr : Rg w tv sa) (htv : ∃ a n c, sv = .slice a n c) :
    Calls Try.prog 21 #[.int .i64 ((k : Nat) : Int), .pointer (some ⟨B, 0, none⟩)] w fun e w' => e = .returned (.bool (!inB sa k)) ∧ Below w.heap.size w w' := by
  have hf := secsave_ct p q sv tv sa k w hr htv
  generalize inB sa k = r at *
  have Hf := Lib.hid hf
  unfold polV at Hf
  clear hf hr htv
  go_enter Try.func21, Try.ntmps21
  go_wp2_with fail
  refine Hf.out.mono ?_
  rintro e w1 ⟨rfl, hB⟩
  go_wp2
  go_ret
  exact ⟨rfl, hB⟩
set_option maxHeartbeats 1000000 in
theorem lowram_ct (p q : Bool) (sv tv : Value) (ra : List (Int × Int)) (B k : Nat) (w : World) (c0 : w.cell? ⟨B, 0, none⟩ = some (.bool p)) (c1 : w.cell? ⟨B, 1, none⟩ = some (.bool q)) (c2 : w.cell? ⟨B, 2, none⟩ = some sv) (c3 : w.cell? ⟨B, 3, none⟩ = some tv) (hr : Rg w sv ra) (htv : ∃ a n c, tv = .slice a n c) :
    Calls Try.prog 22 #[.int .i64 ((k : Nat) : Int), .pointer (some ⟨B, 0, none⟩)] w fun e w' => e = .returned (.bool (!inB ra k)) ∧ Below w.heap.size w w' := by
  have hf := secram_ct p q sv tv ra k w hr htv
  generalize inB ra k = r at *
  have Hf := Lib.hid hf
  unfold polV at Hf
  clear hf hr htv
  go_enter Try.func22, Try.ntmps22
  go_wp2_with fail
  refine Hf.out.mono ?_
  rintro e w1 ⟨rfl, hB⟩
  go_wp2
  go_ret
  exact ⟨rfl, hB⟩
theorem three_heap (w : World) (o1 o2 o3 : Obj) : (((w.alloc o1).alloc o2).alloc o3).heap[w.heap.size]? = some o1 := by
  have h1 := World.alloc_heap_new w o1
  have h2 := Lib.alloc_old (w.alloc o1) o2 _ (show w.heap.size < (w.alloc o1).heap.size by simp)
  have h3 := Lib.alloc_old ((w.alloc o1).alloc o2) o3 _ (show w.heap.size < ((w.alloc o1).alloc o2).heap.size by simp; omega)
  exact h3.trans (h2.trans h1)
def agP (p q : Bool) (a b : ByteArray) : Bool := agreeB (fun k => !(if k % 2 = 0 then p else q)) a b
def agS (l : List (Int × Int)) (a b : ByteArray) : Bool := agreeB (fun k => !inB l k) a b
/-- What Alike tells. -/
def scrAlike (p q : Bool) (ra sa : List (Int × Int)) (a s m : ByteArray) (l : List Int) (b t n : ByteArray) (l2 : List Int) : Bool :=
  decide (okC (polMay ra sa) (scrMay a l s m) = 0) && (decide (okC (polMay ra sa) (scrMay b l2 t n) = 0) && (eqL l l2 && (agP p q a b && (agS sa s t && agS ra m n))))
set_option maxRecDepth 100000 in
set_option maxHeartbeats 2500000 in
theorem salike_ct (p q : Bool) (sv tv : Value) (ra sa : List (Int × Int)) (a s m : ByteArray) (rv : Value) (l : List Int) (b t n : ByteArray) (rv2 : Value) (l2 : List Int) (w : World) (h1 : Rg w sv ra) (h2 : Rg w tv sa) (h3 : Ri w rv l) (h4 : Ri w rv2 l2)
    (ha : a.size ≤ maxLen) (hs : s.size ≤ maxLen) (hm : m.size ≤ maxLen) (hb : b.size ≤ maxLen) (ht : t.size ≤ maxLen) (hn : n.size ≤ maxLen) :
    Calls Try.prog 9 #[polV p q sv tv, scrV a rv s m, scrV b rv2 t n] w fun e w' => e = .returned (.bool (scrAlike p q ra sa a s m l b t n l2)) ∧ Below w.heap.size w w' := by
  have K1 : Hid (∀ wr, Below w.heap.size w wr → Calls Try.prog 17 #[polV p q sv tv, scrV a rv s m] wr fun e w' => e = .returned (.int .i64 (okC (polMay ra sa) (scrMay a l s m))) ∧ Below wr.heap.size wr w') := fun wr h => scheckp_ct p q sv tv ra sa a s m rv l wr (h1.below h) (h2.below h) (h3.below h) ha hs hm
  have K2 : Hid (∀ wr, Below w.heap.size w wr → Calls Try.prog 17 #[polV p q sv tv, scrV b rv2 t n] wr fun e w' => e = .returned (.int .i64 (okC (polMay ra sa) (scrMay b l2 t n))) ∧ Below wr.heap.size wr w') := fun wr h => scheckp_ct p q sv tv ra sa b t n rv2 l2 wr (h1.below h) (h2.below h) (h4.below h) hb ht hn
  have K3 : Hid (∀ wr, Below w.heap.size w wr → Calls Try.prog 18 #[rv, rv2] wr fun e w' => e = .returned (.bool (eqL l l2)) ∧ Below wr.heap.size wr w') := fun wr h => equali_ct rv rv2 l l2 wr (h3.below h) (h4.below h)
  have S1 := h1.slice
  have S2 := h2.slice
  have KP : Hid (∀ B wr, Below w.heap.size w wr → wr.heap[B]? = some (.cells #[.bool p, .bool q, sv, tv] 25) → Calls Try.prog 23 #[.string a, .string b, .func (.func 19) #[] #[.pointer (some ⟨B, 0, none⟩)]] wr fun e w' => e = .returned (.bool (agP p q a b)) ∧ Below wr.heap.size wr w') := fun B wr _ hc =>
    agree_pads B _ a b wr ha fun k wr' h' => by
      have hc' := (h'.block B (Array.getElem?_eq_some_iff.1 hc).1).trans hc
      exact lowpads_ct p q sv tv B k wr' (by rw [Lib.cell_of_heap hc']; rfl) (by rw [Lib.cell_of_heap hc']; rfl) (by rw [Lib.cell_of_heap hc']; rfl) (by rw [Lib.cell_of_heap hc']; rfl)
  have KS : Hid (∀ B wr, Below w.heap.size w wr → wr.heap[B]? = some (.cells #[.bool p, .bool q, sv, tv] 25) → Calls Try.prog 23 #[.string s, .string t, .func (.func 21) #[] #[.pointer (some ⟨B, 0, none⟩)]] wr fun e w' => e = .returned (.bool (agS sa s t)) ∧ Below wr.heap.size wr w') := fun B wr hw hc =>
    agree_save B _ s t wr hs fun k wr' h' => by
      have hc' := (h'.block B (Array.getElem?_eq_some_iff.1 hc).1).trans hc
      exact lowsave_ct p q sv tv sa B k wr' (by rw [Lib.cell_of_heap hc']; rfl) (by rw [Lib.cell_of_heap hc']; rfl) (by rw [Lib.cell_of_heap hc']; rfl) (by rw [Lib.cell_of_heap hc']; rfl) ((h2.below hw).below h') (by obtain ⟨x, y, e⟩ := S1; exact ⟨x, _, y, e⟩)
  have KR : Hid (∀ B wr, Below w.heap.size w wr → wr.heap[B]? = some (.cells #[.bool p, .bool q, sv, tv] 25) → Calls Try.prog 23 #[.string m, .string n, .func (.func 22) #[] #[.pointer (some ⟨B, 0, none⟩)]] wr fun e w' => e = .returned (.bool (agS ra m n)) ∧ Below wr.heap.size wr w') := fun B wr hw hc =>
    agree_ram B _ m n wr hm fun k wr' h' => by
      have hc' := (h'.block B (Array.getElem?_eq_some_iff.1 hc).1).trans hc
      exact lowram_ct p q sv tv ra B k wr' (by rw [Lib.cell_of_heap hc']; rfl) (by rw [Lib.cell_of_heap hc']; rfl) (by rw [Lib.cell_of_heap hc']; rfl) (by rw [Lib.cell_of_heap hc']; rfl) ((h1.below hw).below h') (by obtain ⟨x, y, e⟩ := S2; exact ⟨x, _, y, e⟩)
  clear S1 S2
  obtain ⟨a1, c1, rfl, _⟩ := h1
  obtain ⟨a2, c2, rfl, _⟩ := h2
  obtain ⟨a3, c3, rfl, _⟩ := h3
  obtain ⟨a4, c4, rfl, _⟩ := h4
  unfold scrAlike
  obtain ⟨x, hx⟩ : ∃ x, okC (polMay ra sa) (scrMay a l s m) = x := ⟨_, rfl⟩
  obtain ⟨y, hy⟩ : ∃ x, okC (polMay ra sa) (scrMay b l2 t n) = x := ⟨_, rfl⟩
  obtain ⟨z, hz⟩ : ∃ x, eqL l l2 = x := ⟨_, rfl⟩
  obtain ⟨g1, hg1⟩ : ∃ x, agP p q a b = x := ⟨_, rfl⟩
  obtain ⟨g2, hg2⟩ : ∃ x, agS sa s t = x := ⟨_, rfl⟩
  obtain ⟨g3, hg3⟩ : ∃ x, agS ra m n = x := ⟨_, rfl⟩
  rw [hx] at K1
  rw [hy] at K2
  rw [hz] at K3
  rw [hg1] at KP
  rw [hg2] at KS
  rw [hg3] at KR
  rw [hx, hy, hz, hg1, hg2, hg3]
  clear hx hy hz hg1 hg2 hg3 ha hs hm hb ht hn
  generalize ra.length = n1 at *
  generalize sa.length = n2 at *
  generalize l.length = n3 at *
  generalize l2.length = n4 at *
  unfold polV at K1 K2 ⊢
  unfold scrV at K1 K2 ⊢
  go_enter Try.func9, Try.ntmps9
  go_wp2_with fail
  ((with_reducible refine (K1.out _ (by repeat' (first | exact Below.refl _ _ | (refine Below.setCell ?_ (by first | (simp; done) | (simp; omega) | omega) _) | (refine Below.drew ?_) | (refine Below.drewN ?_ _) | (refine Below.alloc ?_ (by first | (simp; done) | (simp; omega) | omega) _)))).mono ?_))
  rintro e w1 ⟨rfl, hB⟩
  have hb1 : Below w.heap.size w w1 := (by repeat' (first | exact Below.refl _ _ | (refine Below.setCell ?_ (by first | (simp; done) | (simp; omega) | omega) _) | (refine Below.drew ?_) | (refine Below.drewN ?_ _) | (refine Below.alloc ?_ (by first | (simp; done) | (simp; omega) | omega) _) | (refine Below.trans ?_ (Below.mono hB (by first | (simp; done) | (simp; omega) | omega)))))
  have HM := (hB.block w.heap.size (by simp; omega)).trans (three_heap w _ _ _)
  obtain ⟨hc1, hf1⟩ := bcell hB
  simp at hc1 hf1
  have hz1 : w.heap.size + 2 < w1.heap.size := by have := hB.size; simp at this; omega
  have za1 : w.heap.size < w1.heap.size := by omega
  have zb1 : w.heap.size + 1 < w1.heap.size := by omega
  have zc1 : w.heap.size + 1 + 1 < w1.heap.size := by omega
  clear hB
  by_cases hx : x = 0
  · subst hx
    go_wp2_with fail
    ((with_reducible refine (K2.out _ hb1).mono ?_))
    rintro e w2 ⟨rfl, hB⟩
    have hb2 := hb1.next hB
    replace HM := (hB.block w.heap.size (by omega)).trans HM
    have hz2 : w.heap.size + 2 < w2.heap.size := by have := hB.size; omega
    have za2 : w.heap.size < w2.heap.size := by omega
    have zb2 : w.heap.size + 1 < w2.heap.size := by omega
    have zc2 : w.heap.size + 1 + 1 < w2.heap.size := by omega
    obtain ⟨hc2, hf2⟩ := bcell hB
    clear hB
    by_cases hy : y = 0
    · subst hy
      go_wp2_with fail
      ((with_reducible refine (K3.out _ hb2).mono ?_))
      rintro e w3 ⟨rfl, hB⟩
      have hb3 := hb2.next hB
      replace HM := (hB.block w.heap.size (by omega)).trans HM
      have hz3 : w.heap.size + 2 < w3.heap.size := by have := hB.size; omega
      have za3 : w.heap.size < w3.heap.size := by omega
      have zb3 : w.heap.size + 1 < w3.heap.size := by omega
      have zc3 : w.heap.size + 1 + 1 < w3.heap.size := by omega
      obtain ⟨hc3, hf3⟩ := bcell hB
      clear hB
      cases z
      · go_wp2
        go_ret
        exact ⟨rfl, hb3⟩
      · have Hm3 := Lib.hid HM
        clear HM
        go_wp2_with fail
        ((with_reducible refine (KP.out _ _ hb3 Hm3.out).mono ?_))
        rintro e w4 ⟨rfl, hB⟩
        have hb4 := hb3.next hB
        have Hm4 := Lib.hid ((hB.block w.heap.size (by omega)).trans Hm3.out)
        have hz4 : w.heap.size + 2 < w4.heap.size := by have := hB.size; omega
        have za4 : w.heap.size < w4.heap.size := by omega
        have zb4 : w.heap.size + 1 < w4.heap.size := by omega
        have zc4 : w.heap.size + 1 + 1 < w4.heap.size := by omega
        obtain ⟨hc4, hf4⟩ := bcell hB
        clear hB
        cases g1
        · go_wp2
          go_ret
          exact ⟨rfl, hb4⟩
        · go_wp2_with fail
          ((with_reducible refine (KS.out _ _ hb4 Hm4.out).mono ?_))
          rintro e w5 ⟨rfl, hB⟩
          have hb5 := hb4.next hB
          have Hm5 := Lib.hid ((hB.block w.heap.size (by omega)).trans Hm4.out)
          have hz5 : w.heap.size + 2 < w5.heap.size := by have := hB.size; omega
          have za5 : w.heap.size < w5.heap.size := by omega
          have zb5 : w.heap.size + 1 < w5.heap.size := by omega
          have zc5 : w.heap.size + 1 + 1 < w5.heap.size := by omega
          obtain ⟨hc5, hf5⟩ := bcell hB
          clear hB
          cases g2
          · go_wp2
            go_ret
            exact ⟨rfl, hb5⟩
          · go_wp2_with fail
            ((with_reducible refine (KR.out _ _ hb5 Hm5.out).mono ?_))
            rintro e w6 ⟨rfl, hB⟩
            have hb6 := hb5.next hB
            clear hB
            go_wp2
            go_ret
            exact ⟨rfl, hb6⟩
    · go_wp2
      go_ret
      exact ⟨rfl, hb2⟩
  · go_wp2
    go_ret
    exact ⟨by rw [decide_eq_false hx]; rfl, hb1⟩
end Go.Proofs.Ytdafilfnmdfacaa
