/-
  The walk of layer 2's law on what is stored, over this seat's translation: it returns true, and writes nothing that was there.
-/
import Derived.Test.YtinbankkpbdlbaaAwk
namespace Go.Proofs.Ytinbankkpbdlbaa
open Go.RowKit

/-- A variable of a byte: where it lies, and what it holds. -/
def BV (w : World) (g : Nat) (a : Int) (s : Bool) : Prop := g < w.heap.size ∧ w.cell? ⟨g, 0, none⟩ = some (.int .u8 a) ∧ w.cell? ⟨g, 1, none⟩ = some (.bool s)
theorem BV.next {w w' : World} {g : Nat} {a : Int} {s : Bool} (h : BV w g a s) (hb : Below w.heap.size w w') : BV w' g a s :=
  ⟨Nat.lt_of_lt_of_le h.1 hb.size, by rw [hb.cell (p := ⟨g, 0, none⟩) h.1]; exact h.2.1, by rw [hb.cell (p := ⟨g, 1, none⟩) h.1]; exact h.2.2⟩
theorem nth_set_same (l : List (Int × Bool)) (k : Nat) (p : Int × Bool) (h : k < l.length) : nth (l.set k p) k = p := by simp [nth, h]
theorem nth_set_other (l : List (Int × Bool)) (k j : Nat) (p : Int × Bool) (h : j ≠ k) : nth (l.set k p) j = nth l j := by simp [nth, Ne.symm h]

set_option maxRecDepth 100000 in
set_option maxHeartbeats 2000000 in
theorem store_walk (sv : Value) (l : List (Int × Bool)) (i b : Int) (s : Bool) (w : World) (hr : Rd w sv l) :
    Calls Try.prog 5 #[sv, .int .i64 i, .agg #[.int .u8 b, .bool s]] w fun e w' => e = .returned (.bool true) ∧ Below w.heap.size w w' := by
  have hb0 : Below w.heap.size w (w.alloc (.cells #[.int .u8 b, .bool s] 41)) := (by repeat' (first | exact Below.refl _ _ | (refine Below.setCell ?_ (by first | (simp; done) | (simp; omega) | omega) _) | (refine Below.drew ?_) | (refine Below.drewN ?_ _) | (refine Below.alloc ?_ (by first | (simp; done) | (simp; omega) | omega) _)))
  have Hr := Lib.hid (hr.below hb0)
  have hbv : BV (w.alloc (.cells #[.int .u8 b, .bool s] 41)) w.heap.size b s := ⟨(by first | (simp; done) | (simp; omega) | omega), (by simp [go_sem]), (by simp [go_sem])⟩
  clear hr
  go_enter Try.func5, Try.ntmps5
  go_wp2_with fail
  refine (fewb_ct sv l _ Hr.out).mono ?_
  rintro e w1 ⟨x, rfl, hx, rfl⟩
  have lm : (l.take 300).length ≤ 300 := by rw [List.length_take]; omega
  clear Hr
  generalize l.take 300 = m at *
  obtain ⟨g, hg⟩ : ∃ g, g = w.heap.size := ⟨_, rfl⟩
  rw [← hg] at hbv
  rw [show (Value.pointer (some ⟨w.heap.size, 0, none⟩)) = .pointer (some ⟨g, 0, none⟩) from by rw [hg]]
  clear hg
  generalize (w.alloc (.cells #[.int .u8 b, .bool s] 41)) = wa at *
  have o0 : Own (wa.alloc (.cells #[] 41)) wa.heap.size wa.heap.size 0 [] := ⟨rfl, .inr ⟨wa.heap.size, 0, #[], rfl, Nat.le_refl _, heap_alloc_new wa _, by simp, by simp [maxLen], rfl, rfl⟩⟩
  have b0 : Below wa.heap.size wa (wa.alloc (.cells #[] 41)) := (by repeat' (first | exact Below.refl _ _ | (refine Below.setCell ?_ (by first | (simp; done) | (simp; omega) | omega) _) | (refine Below.drew ?_) | (refine Below.drewN ?_ _) | (refine Below.alloc ?_ (by first | (simp; done) | (simp; omega) | omega) _)))
  obtain ⟨g1, c1, w1, r1, o1, _, b1⟩ := app_bytes (wa.alloc (.cells #[] 41)) wa.heap.size wa.heap.size 0 [] m x 32 o0 (hx.below b0).src (by simp; omega) (by simp)
  rw [List.nil_append] at r1 o1
  have b1' := b0.trans b1
  have Hx1 := Lib.hid (hx.below b1')
  have Ho1 := Lib.hid o1.rd
  have HB := hb0.next b1'
  have hbv1 := hbv.next b1'
  have R1 := Lib.hid r1
  clear o0 b0 b1 b1' o1 hx r1 hb0 hbv
  by_cases hin : 0 ≤ i ∧ i < m.length
  · obtain ⟨h0, h1⟩ := hin
    obtain ⟨k, rfl⟩ := Int.eq_ofNat_of_zero_le h0
    have hkm : k < m.length := by omega
    clear h0 h1
    go_wp2_with (at_builtin; refine step_app (by rfl) _ _ _ _ rfl _ _ rfl rfl _ _ R1.out ?_)
    refine (load_yes m x k w1 Hx1.out hkm).mono ?_
    rintro e w2 ⟨rfl, B2⟩
    have Hx2 := Lib.hid (Hx1.out.below B2)
    have Ho2 := Lib.hid (Ho1.out.below B2)
    replace HB := HB.next B2
    have hbv2 := hbv1.next B2
    clear Hx1 Ho1 B2 hbv1 R1
    obtain ⟨ov, hov⟩ : ∃ ov, ov = (nth m k).1 := ⟨_, rfl⟩
    obtain ⟨os, hos⟩ : ∃ os, os = (nth m k).2 := ⟨_, rfl⟩
    rw [← hov, ← hos]
    have Hov := Lib.hid hov
    have Hos := Lib.hid hos
    clear hov hos
    have ba : Below w2.heap.size w2 (w2.alloc (.cells #[.int .u8 ov, .bool os] 41)) := (by repeat' (first | exact Below.refl _ _ | (refine Below.setCell ?_ (by first | (simp; done) | (simp; omega) | omega) _) | (refine Below.drew ?_) | (refine Below.drewN ?_ _) | (refine Below.alloc ?_ (by first | (simp; done) | (simp; omega) | omega) _)))
    have hold : BV (w2.alloc (.cells #[.int .u8 ov, .bool os] 41)) w2.heap.size ov os := ⟨(by first | (simp; done) | (simp; omega) | omega), (by simp [go_sem]), (by simp [go_sem])⟩
    have Hx3 := Lib.hid (Hx2.out.below ba)
    have Ho3 := Lib.hid (Ho2.out.below ba)
    replace HB := HB.next ba
    have hbv3 := hbv2.next ba
    obtain ⟨p1, p2, p3⟩ := hbv2
    clear Hx2 Ho2 ba
    go_wp2_with fail
    refine (store_yes m x k b s _ Hx3.out hkm (by omega)).mono ?_
    generalize (w2.alloc (.cells #[.int .u8 ov, .bool os] 41)) = w3 at *
    generalize w2.heap.size = g2 at *
    rintro e w4 ⟨y, rfl, hy, B4⟩
    obtain ⟨ya, ycap, rfl⟩ := hy.slice
    rw [nth_set_len] at hy
    have Hy4 := Lib.hid hy
    have Hx4 := Lib.hid (Hx3.out.below B4)
    have Ho4 := Lib.hid (Ho3.out.below B4)
    replace HB := HB.next B4
    have hbv4 := hbv3.next B4
    have hold4 := hold.next B4
    clear Hx3 Ho3 B4 hbv3 hold hy p1 p2 p3
    go_wp2_with fail
    refine (rsame_ct _ _ m m _ Hx4.out Ho4.out).mono ?_
    rw [eqL_self]
    rintro e w5 ⟨rfl, B5⟩
    have Hy5 := Lib.hid (Hy4.out.below B5)
    have Hx5 := Lib.hid (Hx4.out.below B5)
    replace HB := HB.next B5
    have hbv5 := hbv4.next B5
    have hold5 := hold4.next B5
    clear Hx4 Ho4 B5 hbv4 hold4 Hy4
    obtain ⟨a, cap, hxv, hcap, hcm, hcl⟩ := Hx5.out
    subst hxv
    unfold maxLen at hcm
    rcases hcl with rfl | ⟨bb, off, rfl, hbl, hcl⟩
    · simp at hkm
    obtain ⟨d1, d2⟩ := hcl k hkm
    rw [← Hov.out] at d1
    rw [← Hos.out] at d2
    obtain ⟨q1, q2, q3⟩ := hold5
    have hkc : decide (m.length ≤ k) = false := decide_eq_false (by omega)
    have hk0 : decide ((k : Int) < 0) = false := decide_eq_false (by omega)
    clear hcl
    go_wp2_with fail
    go_quiet (fail)
    go_wp2
    have hwq := below_drewN (Below.refl w5.heap.size w5) nq
    have Hx6 := Lib.hid (Hx5.out.below hwq)
    have Hy6 := Lib.hid (Hy5.out.below hwq)
    have hbv6 := hbv5.next hwq
    replace HB := HB.next hwq
    clear Hx5 Hy5 hbv5 hwq d1 d2 q1 q2 q3
    generalize w5.drewN nq = w6 at *
    go_loopw [12] (fun i wr => ∃ (j : Nat), j ≤ m.length ∧ i = .int .i64 j ∧ Below w6.heap.size w6 wr) (fun i _ => m.length - (intOf i).toNat)
    case atStart => exact ⟨0, Nat.zero_le _, rfl, Below.refl _ _⟩
    case round =>
      obtain ⟨j, hj, rfl, hB⟩ := hrel
      by_cases hlt : j < m.length
      · obtain ⟨a', cap', he, _, _, hz⟩ := Hx6.out
        rcases hz with rfl | ⟨bb', off', rfl, hbl', hcl⟩
        · simp at hlt
        injection he with e1 e2 e3
        injection e1 with e1
        injection e1 with e1 e4
        subst e1 e4 e3
        clear e2
        obtain ⟨d1, d2⟩ := hcl j hlt
        rw [← hB.cell hbl'] at d1 d2
        have Hyr := Lib.hid (Hy6.out.below hB)
        obtain ⟨p1, p2, p3⟩ := hbv6.next hB
        have hlbb : bb < wr.heap.size := Nat.lt_of_lt_of_le hbl' hB.size
        clear hcl
        obtain ⟨vj, hvj⟩ : ∃ vj, vj = (nth m j).1 := ⟨_, rfl⟩
        obtain ⟨sj, hsj⟩ : ∃ sj, sj = (nth m j).2 := ⟨_, rfl⟩
        rw [← hvj] at d1
        rw [← hsj] at d2
        have Hvj := Lib.hid hvj
        have Hsj := Lib.hid hsj
        clear hvj hsj
        by_cases hjk : j = k
        · subst hjk
          have bal : Below wr.heap.size wr (wr.alloc (.cells #[.int .u8 b, .bool s] 41)) := (by repeat' (first | exact Below.refl _ _ | (refine Below.setCell ?_ (by first | (simp; done) | (simp; omega) | omega) _) | (refine Below.drew ?_) | (refine Below.drewN ?_ _) | (refine Below.alloc ?_ (by first | (simp; done) | (simp; omega) | omega) _)))
          have hlo := load_yes (m.set j (b, s)) _ j _ (Hyr.out.below bal) (by rw [nth_set_len]; exact hlt)
          rw [nth_set_same m j (b, s) hlt] at hlo
          have Hlo := Lib.hid hlo
          have hB' := hB.next bal
          clear hlo bal Hyr
          go_wp2_with fail
          (with_reducible refine Hlo.out.mono ?_)
          rintro e w7 ⟨rfl, B7⟩
          obtain ⟨hc, hf⟩ := bcell B7
          simp at hc hf
          have hz7 : wr.heap.size < w7.heap.size := by have := B7.size; simp at this; omega
          replace hB' := hB'.next B7
          have hB2 : Below w6.heap.size w6 (w7.alloc (.cells #[.int .u8 b, .bool s] 41)) := hB'.next (by repeat' (first | exact Below.refl _ _ | (refine Below.setCell ?_ (by first | (simp; done) | (simp; omega) | omega) _) | (refine Below.drew ?_) | (refine Below.drewN ?_ _) | (refine Below.alloc ?_ (by first | (simp; done) | (simp; omega) | omega) _)))
          clear Hlo
          go_wp2
          go_roundw
          case rel => exact ⟨j + 1, by omega, by go_num, hB2⟩
          case measure => simp [intOf]; omega
        · have hjk' : decide (j = k) = false := decide_eq_false hjk
          have hjk2 : ((j : Int) == (k : Int)) = false := by simp; omega
          have bal : Below wr.heap.size wr (wr.alloc (.cells #[.int .u8 vj, .bool sj] 41)) := (by repeat' (first | exact Below.refl _ _ | (refine Below.setCell ?_ (by first | (simp; done) | (simp; omega) | omega) _) | (refine Below.drew ?_) | (refine Below.drewN ?_ _) | (refine Below.alloc ?_ (by first | (simp; done) | (simp; omega) | omega) _)))
          have hlo := load_yes (m.set k (b, s)) _ j _ (Hyr.out.below bal) (by rw [nth_set_len]; exact hlt)
          rw [nth_set_other m k j (b, s) hjk, ← Hvj.out, ← Hsj.out] at hlo
          have Hlo := Lib.hid hlo
          have hB' := hB.next bal
          clear hlo bal Hyr
          go_wp2_with fail
          (with_reducible refine Hlo.out.mono ?_)
          rintro e w7 ⟨rfl, B7⟩
          obtain ⟨hc, hf⟩ := bcell B7
          simp at hc hf
          have hz7 : wr.heap.size < w7.heap.size := by have := B7.size; simp at this; omega
          replace hB' := hB'.next B7
          have hB2 : Below w6.heap.size w6 (w7.alloc (.cells #[.int .u8 vj, .bool sj] 41)) := hB'.next (by repeat' (first | exact Below.refl _ _ | (refine Below.setCell ?_ (by first | (simp; done) | (simp; omega) | omega) _) | (refine Below.drew ?_) | (refine Below.drewN ?_ _) | (refine Below.alloc ?_ (by first | (simp; done) | (simp; omega) | omega) _)))
          clear Hlo
          go_wp2
          go_roundw
          case rel => exact ⟨j + 1, by omega, by go_num, hB2⟩
          case measure => simp [intOf]; omega
      · have hnm : decide (j < m.length) = false := decide_eq_false hlt
        go_wp2_with fail
        refine (awake_ct _).mono ?_
        rintro e w7 ⟨rfl, hB7⟩
        go_wp2
        go_ret
        exact ⟨rfl, (HB.next hB).next hB7⟩
  · have hout : i < 0 ∨ (m.length : Int) ≤ i := by omega
    have Hout := Lib.hid hout
    clear hin hout
    go_wp2_with (at_builtin; refine step_app (by rfl) _ _ _ _ rfl _ _ rfl rfl _ _ R1.out ?_)
    (with_reducible refine (load_no m x i w1 Hx1.out Hout.out).mono ?_)
    rintro e w2 ⟨rfl, B2⟩
    have Hx2 := Lib.hid (Hx1.out.below B2)
    have Ho2 := Lib.hid (Ho1.out.below B2)
    replace HB := HB.next B2
    have hbv2 := hbv1.next B2
    clear Hx1 Ho1 B2 hbv1 R1
    have ba : Below w2.heap.size w2 (w2.alloc (.cells #[.int .u8 0, .bool false] 41)) := (by repeat' (first | exact Below.refl _ _ | (refine Below.setCell ?_ (by first | (simp; done) | (simp; omega) | omega) _) | (refine Below.drew ?_) | (refine Below.drewN ?_ _) | (refine Below.alloc ?_ (by first | (simp; done) | (simp; omega) | omega) _)))
    have hold : BV (w2.alloc (.cells #[.int .u8 0, .bool false] 41)) w2.heap.size 0 false := ⟨(by first | (simp; done) | (simp; omega) | omega), (by simp [go_sem]), (by simp [go_sem])⟩
    have Hx3 := Lib.hid (Hx2.out.below ba)
    have Ho3 := Lib.hid (Ho2.out.below ba)
    replace HB := HB.next ba
    obtain ⟨p1, p2, p3⟩ := hbv2
    clear Hx2 Ho2 ba
    go_wp2_with fail
    refine (store_no m x i b s _ Hx3.out Hout.out (by omega)).mono ?_
    generalize (w2.alloc (.cells #[.int .u8 0, .bool false] 41)) = w3 at *
    generalize w2.heap.size = g2 at *
    rintro e w4 ⟨y, rfl, hy, B4⟩
    obtain ⟨ya, ycap, rfl⟩ := hy.slice
    have Hy4 := Lib.hid hy
    have Hx4 := Lib.hid (Hx3.out.below B4)
    have Ho4 := Lib.hid (Ho3.out.below B4)
    replace HB := HB.next B4
    have hold4 := hold.next B4
    clear Hx3 Ho3 B4 hold hy p1 p2 p3
    go_wp2_with fail
    refine (rsame_ct _ _ m m _ Hx4.out Ho4.out).mono ?_
    rw [eqL_self]
    rintro e w5 ⟨rfl, B5⟩
    have Hy5 := Lib.hid (Hy4.out.below B5)
    have Hx5 := Lib.hid (Hx4.out.below B5)
    replace HB := HB.next B5
    have hold5 := hold4.next B5
    clear Hx4 Ho4 B5 hold4 Hy4
    obtain ⟨xa, xcap, hxv⟩ := Hx5.out.slice
    subst hxv
    obtain ⟨q1, q2, q3⟩ := hold5
    have hout := Hout.out
    clear Hout
    by_cases h0 : i < 0
    · clear hout
      go_wp2_with fail
      refine (rsame_ct _ _ m m _ Hy5.out Hx5.out).mono ?_
      rw [eqL_self]
      rintro e w6 ⟨rfl, B6⟩
      replace HB := HB.next B6
      clear Hy5 Hx5 B6 q1 q2 q3
      go_wp2_with fail
      refine (awake_ct _).mono ?_
      rintro e w7 ⟨rfl, hB7⟩
      go_wp2
      go_ret
      exact ⟨rfl, HB.next hB7⟩
    · have h1 : (m.length : Int) ≤ i := by omega
      clear hout
      go_wp2_with fail
      refine (rsame_ct _ _ m m _ Hy5.out Hx5.out).mono ?_
      rw [eqL_self]
      rintro e w6 ⟨rfl, B6⟩
      replace HB := HB.next B6
      clear Hy5 Hx5 B6 q1 q2 q3
      go_wp2_with fail
      refine (awake_ct _).mono ?_
      rintro e w7 ⟨rfl, hB7⟩
      go_wp2
      go_ret
      exact ⟨rfl, HB.next hB7⟩
end Go.Proofs.Ytinbankkpbdlbaa
