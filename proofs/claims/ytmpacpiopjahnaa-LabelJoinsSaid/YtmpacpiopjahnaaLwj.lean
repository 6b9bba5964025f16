/-
  The walk of layer 1's law on joining, over this seat's translation: it returns true, and writes nothing that was there.
-/
import Derived.Test.YtmpacpiopjahnaaLbn
import Derived.Test.YtmpacpiopjahnaaApp
namespace Go.Proofs.Ytmpacpiopjahnaa
open Go.RowKit
theorem anyS_append (l m : List (Int × Bool)) : anyS (l ++ m) = (anyS l || anyS m) := by simp [anyS]
set_option maxRecDepth 100000 in
set_option maxHeartbeats 4000000 in
theorem joins_walk (v : Int) (sv tv : Value) (l m : List (Int × Bool)) (w : World) (hr : Rd w sv l) (hs : Rd w tv m) :
    Calls Try.prog 8 #[.int .u8 v, sv, tv] w fun e w' => e = .returned (.bool true) ∧ Below w.heap.size w w' := by
  have Hr := Lib.hid hr
  have Hs := Lib.hid hs
  clear hr hs
  go_enter Try.func8, Try.ntmps8
  go_wp2_with fail
  refine (few_ct sv l _ Hr.out).mono ?_
  rintro e w1 ⟨x, rfl, hx, rfl⟩
  have lx : (l.take 40).length ≤ 40 := by rw [List.length_take]; omega
  clear Hr
  generalize l.take 40 = l1 at *
  go_wp2_with fail
  refine (few_ct tv m _ Hs.out).mono ?_
  rintro e w1 ⟨y, rfl, hy, rfl⟩
  have ly : (m.take 40).length ≤ 40 := by rw [List.length_take]; omega
  clear Hs
  generalize m.take 40 = l2 at *
  go_upto_region 2 with fail
  have o0 : Own (w.alloc (.cells #[] 24)) w.heap.size w.heap.size 0 [] := ⟨rfl, .inr ⟨w.heap.size, 0, #[], rfl, Nat.le_refl _, heap_alloc_new w _, by simp, by simp [maxLen], rfl, rfl⟩⟩
  have b0 : Below w.heap.size w (w.alloc (.cells #[] 24)) := (by repeat' (first | exact Below.refl _ _ | (refine Below.setCell ?_ (by first | (simp; done) | (simp; omega) | omega) _) | (refine Below.drew ?_) | (refine Below.drewN ?_ _) | (refine Below.alloc ?_ (by first | (simp; done) | (simp; omega) | omega) _)))
  obtain ⟨g1, c1, w1, r1, o1, _, b1⟩ := app_bytes (w.alloc (.cells #[] 24)) w.heap.size w.heap.size 0 [] l1 x 22 o0 (hx.below b0).src (by simp; omega) (by simp)
  rw [List.nil_append] at r1 o1
  have b1' := b0.trans b1
  obtain ⟨g2, c2, w2, r2, o2, _, b2⟩ := app_bytes w1 w.heap.size g1 c1 l1 l2 y 22 o1 (hy.below b1').src (by omega) b1'.size
  have b2' := b1'.trans b2
  have o3 : Own (w2.alloc (.cells #[] 24)) w.heap.size w2.heap.size 0 [] := ⟨rfl, .inr ⟨w2.heap.size, 0, #[], rfl, b2'.size, heap_alloc_new w2 _, by simp, by simp [maxLen], rfl, rfl⟩⟩
  have b3' : Below w.heap.size w (w2.alloc (.cells #[] 24)) := b2'.alloc b2'.size _
  have o2a := o2.below (w' := w2.alloc (.cells #[] 24)) (by repeat' (first | exact Below.refl _ _ | (refine Below.setCell ?_ (by first | (simp; done) | (simp; omega) | omega) _) | (refine Below.drew ?_) | (refine Below.drewN ?_ _) | (refine Below.alloc ?_ (by first | (simp; done) | (simp; omega) | omega) _)))
  obtain ⟨g4, c4, w4, r4, o4, _, b4⟩ := app_bytes (w2.alloc (.cells #[] 24)) w2.heap.size w2.heap.size 0 [] l2 y 22 ⟨rfl, .inr ⟨w2.heap.size, 0, #[], rfl, Nat.le_refl _, heap_alloc_new w2 _, by simp, by simp [maxLen], rfl, rfl⟩⟩ (hy.below b3').src (by simp; omega) (by simp)
  rw [List.nil_append] at r4 o4
  have b4' : Below w.heap.size w w4 := b3'.trans (b4.mono b2'.size)
  obtain ⟨g5, c5, w5, r5, o5, _, b5⟩ := app_bytes w4 w2.heap.size g4 c4 l2 l1 x 22 o4 (hx.below b4').src (by omega) (by have := b4.size; simp at this; omega)
  have b45 : Below w2.heap.size (w2.alloc (.cells #[] 24)) w5 := b4.trans b5
  have b5' : Below w.heap.size w w5 := b3'.trans (b45.mono b2'.size)
  have b25 : Below w2.heap.size w2 w5 := Below.trans (by repeat' (first | exact Below.refl _ _ | (refine Below.setCell ?_ (by first | (simp; done) | (simp; omega) | omega) _) | (refine Below.drew ?_) | (refine Below.drewN ?_ _) | (refine Below.alloc ?_ (by first | (simp; done) | (simp; omega) | omega) _))) b45
  have ob := o2.below b25
  have lb : (l1 ++ l2).length ≤ 80 := by rw [List.length_append]; omega
  have e1 : anyS (l1 ++ l2) = (anyS l1 || anyS l2) := anyS_append _ _
  have e2 : anyS (l2 ++ l1) = (anyS l1 || anyS l2) := by rw [anyS_append, Bool.or_comm]
  have ot := o5
  clear o0 o1 o2 o3 o2a o4 o5 b0 b1 b1' b2 b2' b3' b4 b4' b5 b45 b25
  generalize l1 ++ l2 = bo at *
  generalize l2 ++ l1 = tu at *
  have E1 := Lib.hid e1
  have E2 := Lib.hid e2
  clear e1 e2
  have Hx := Lib.hid hx
  have Hy := Lib.hid hy
  clear hx hy
  have R1 := Lib.hid r1
  have R2 := Lib.hid r2
  have R4 := Lib.hid r4
  have R5 := Lib.hid r5
  clear r1 r2 r4 r5
  go_wp2_with (first | (at_builtin; refine step_app (by rfl) _ _ _ _ rfl _ _ rfl rfl _ _ R1.out ?_) | (at_builtin; refine step_app (by rfl) _ _ _ _ rfl _ _ rfl rfl _ _ R2.out ?_) | (at_builtin; refine step_app (by rfl) _ _ _ _ rfl _ _ rfl rfl _ _ R4.out ?_) | (at_builtin; refine step_app (by rfl) _ _ _ _ rfl _ _ rfl rfl _ _ R5.out ?_))
  clear R1 R2 R4 R5
  refine (of_ct _ _ bo _ ob.rd).mono ?_
  rintro e w6 ⟨rfl, h6⟩
  replace ob := ob.below h6
  replace ot := ot.below h6
  replace b5' := b5'.next h6
  go_wp2_with fail
  refine (of_ct _ _ tu _ ot.rd).mono ?_
  rintro e w7 ⟨rfl, h7⟩
  clear ot
  replace ob := ob.below h7
  replace b5' := b5'.next h7
  rw [E1.out, E2.out]
  go_wp2_with fail
  refine (any_ct _ bo _ ob.rd).mono ?_
  rintro e w8 ⟨rfl, h8⟩
  replace ob := ob.below h8
  replace b5' := b5'.next h8
  rw [E1.out]
  go_wp2_with fail
  refine (any_ct _ l1 _ (Hx.out.below b5')).mono ?_
  rintro e w9 ⟨rfl, h9⟩
  replace ob := ob.below h9
  replace b5' := b5'.next h9
  clear h6 h7 h8 h9 Hx E2
  obtain ⟨p, hp⟩ : ∃ p, p = anyS l1 := ⟨_, rfl⟩
  obtain ⟨q, hq⟩ : ∃ q, q = anyS l2 := ⟨_, rfl⟩
  rw [← hp, ← hq] at E1 ⊢
  have Q := Lib.hid hq
  clear hp hq
  have rest : True := trivial
  cases p
  · go_wp2_with fail
    refine (any_ct _ l2 _ (Hy.out.below b5')).mono ?_
    rintro e w10 ⟨rfl, h10⟩
    replace ob := ob.below h10
    replace b5' := b5'.next h10
    clear h10 Hy
    rw [← Q.out]
    have e3 : anyS (bo ++ bo) = anyS bo := by rw [anyS_append, Bool.or_self]
    obtain ⟨g6, c6, w11, r6, o6, ob6, b6⟩ := app_bytes w10 w.heap.size g2 c2 bo bo (.slice (some ⟨g2, 0, none⟩) bo.length c2) 22 ob ob.rd.src (by omega) b5'.size
    replace b5' := b5'.trans b6
    clear ob b6
    have E3 := Lib.hid e3
    clear e3
    generalize bo ++ bo = bb at *
    have R6 := Lib.hid r6
    clear r6
    go_wp2_with (first | (at_builtin; refine step_app (by rfl) _ _ _ _ rfl _ _ rfl rfl _ _ R6.out ?_))
    refine (of_ct _ _ bb _ o6.rd).mono ?_
    rintro e w12 ⟨rfl, h12⟩
    replace ob6 := ob6.below h12
    replace b5' := b5'.next h12
    rw [E3.out]
    clear E3 R6 h12 o6
    go_wp2_with fail
    refine (of_ct _ _ bo _ ob6.rd).mono ?_
    rintro e w13 ⟨rfl, h13⟩
    replace ob6 := ob6.below h13
    replace b5' := b5'.next h13
    clear h13
    go_wp2_with fail
    refine (sec_ct _ _).mono ?_
    rintro e w14 ⟨rfl, h14⟩
    replace ob6 := ob6.below h14
    replace b5' := b5'.next h14
    clear h14
    have bz : Below w14.heap.size w14 (w14.alloc (.cells #[.int .u8 v, .bool true] 24)) := (by repeat' (first | exact Below.refl _ _ | (refine Below.setCell ?_ (by first | (simp; done) | (simp; omega) | omega) _) | (refine Below.drew ?_) | (refine Below.drewN ?_ _) | (refine Below.alloc ?_ (by first | (simp; done) | (simp; omega) | omega) _)))
    have b6' := b5'.next bz
    obtain ⟨g7, c7, w15, r7, o7, _, b7⟩ := app_bytes (w14.alloc (.cells #[.int .u8 v, .bool true] 24)) w.heap.size g2 c2 bo [(v, true)] (.slice (some ⟨w14.heap.size, 0, none⟩) 1 1) 22 (ob6.below bz) (rd1 rfl v true _).src (by simp; omega) b6'.size
    have e4 : anyS (bo ++ [(v, true)]) = true := by simp [anyS]
    have E4 := Lib.hid e4
    clear e4
    replace b6' := b6'.trans b7
    clear b7 bz ob6 b5'
    generalize bo ++ [(v, true)] = bl at *
    have R7 := Lib.hid r7
    clear r7
    go_wp2_with (first | (at_builtin; refine step_app (by rfl) _ _ _ _ rfl _ _ rfl rfl _ _ R7.out ?_))
    refine (any_ct _ bl _ o7.rd).mono ?_
    rintro e w16 ⟨rfl, h16⟩
    replace b6' := b6'.next h16
    rw [E4.out]
    clear E4 R7 h16 o7
    go_wp2_with fail
    refine (awake_ct _).mono ?_
    rintro e w17 ⟨rfl, h17⟩
    replace b6' := b6'.next h17
    go_wp2
    go_ret
    exact ⟨rfl, b6'⟩
  · clear Hy
    have e3 : anyS (bo ++ bo) = anyS bo := by rw [anyS_append, Bool.or_self]
    obtain ⟨g6, c6, w11, r6, o6, ob6, b6⟩ := app_bytes w9 w.heap.size g2 c2 bo bo (.slice (some ⟨g2, 0, none⟩) bo.length c2) 22 ob ob.rd.src (by omega) b5'.size
    replace b5' := b5'.trans b6
    clear ob b6
    have E3 := Lib.hid e3
    clear e3
    generalize bo ++ bo = bb at *
    have R6 := Lib.hid r6
    clear r6
    go_wp2_with (first | (at_builtin; refine step_app (by rfl) _ _ _ _ rfl _ _ rfl rfl _ _ R6.out ?_))
    refine (of_ct _ _ bb _ o6.rd).mono ?_
    rintro e w12 ⟨rfl, h12⟩
    replace ob6 := ob6.below h12
    replace b5' := b5'.next h12
    rw [E3.out]
    clear E3 R6 h12 o6
    go_wp2_with fail
    refine (of_ct _ _ bo _ ob6.rd).mono ?_
    rintro e w13 ⟨rfl, h13⟩
    replace ob6 := ob6.below h13
    replace b5' := b5'.next h13
    clear h13
    go_wp2_with fail
    refine (sec_ct _ _).mono ?_
    rintro e w14 ⟨rfl, h14⟩
    replace ob6 := ob6.below h14
    replace b5' := b5'.next h14
    clear h14
    have bz : Below w14.heap.size w14 (w14.alloc (.cells #[.int .u8 v, .bool true] 24)) := (by repeat' (first | exact Below.refl _ _ | (refine Below.setCell ?_ (by first | (simp; done) | (simp; omega) | omega) _) | (refine Below.drew ?_) | (refine Below.drewN ?_ _) | (refine Below.alloc ?_ (by first | (simp; done) | (simp; omega) | omega) _)))
    have b6' := b5'.next bz
    obtain ⟨g7, c7, w15, r7, o7, _, b7⟩ := app_bytes (w14.alloc (.cells #[.int .u8 v, .bool true] 24)) w.heap.size g2 c2 bo [(v, true)] (.slice (some ⟨w14.heap.size, 0, none⟩) 1 1) 22 (ob6.below bz) (rd1 rfl v true _).src (by simp; omega) b6'.size
    have e4 : anyS (bo ++ [(v, true)]) = true := by simp [anyS]
    have E4 := Lib.hid e4
    clear e4
    replace b6' := b6'.trans b7
    clear b7 bz ob6 b5'
    generalize bo ++ [(v, true)] = bl at *
    have R7 := Lib.hid r7
    clear r7
    go_wp2_with (first | (at_builtin; refine step_app (by rfl) _ _ _ _ rfl _ _ rfl rfl _ _ R7.out ?_))
    refine (any_ct _ bl _ o7.rd).mono ?_
    rintro e w16 ⟨rfl, h16⟩
    replace b6' := b6'.next h16
    rw [E4.out]
    clear E4 R7 h16 o7
    go_wp2_with fail
    refine (awake_ct _).mono ?_
    rintro e w17 ⟨rfl, h17⟩
    replace b6' := b6'.next h17
    go_wp2
    go_ret
    exact ⟨rfl, b6'⟩
end Go.Proofs.Ytmpacpiopjahnaa
