/-
  The walk of layer 2's law on cells that are alike, over this seat's translation: it returns true, and writes nothing that was there.
-/
import Derived.Test.YtinbankkpbdlbaaAwk
import Derived.Test.YtinbankkpbdlbaaSes
namespace Go.Proofs.Ytinbankkpbdlbaa
open Go.RowKit

theorem alikeB_same {a b : Int} {s t : Bool} (h : alikeB a s b t = true) : s = t := by
  unfold alikeB at h
  revert h
  cases s <;> cases t <;> simp
theorem alikeL_size {l m : List (Int × Bool)} (h : alikeL l m = true) : l.length = m.length := by
  by_cases e : l.length = m.length
  · exact e
  · rw [alikeL_len l m e] at h; cases h
theorem alikeL_marks : ∀ (l m : List (Int × Bool)) (j : Nat), alikeL l m = true → (nth l j).2 = (nth m j).2
  | [], [], _, _ => rfl
  | a :: l, b :: m, 0, h => alikeB_same (Bool.and_eq_true _ _ ▸ h).1
  | a :: l, b :: m, j + 1, h => alikeL_marks l m j (Bool.and_eq_true _ _ ▸ h).2
  | [], _ :: _, _, h => by cases h
  | _ :: _, [], _, h => by cases h
theorem alikeL_set : ∀ (l m : List (Int × Bool)) (k : Nat) (p q : Int × Bool), alikeL l m = true → alikeB p.1 p.2 q.1 q.2 = true → alikeL (l.set k p) (m.set k q) = true
  | [], [], _, _, _, _, _ => rfl
  | a :: l, b :: m, 0, p, q, h, g => by
    rw [alikeL, Bool.and_eq_true] at h
    rw [List.set_cons_zero, List.set_cons_zero, alikeL, g, h.2]; rfl
  | a :: l, b :: m, k + 1, p, q, h, g => by
    rw [alikeL, Bool.and_eq_true] at h
    rw [List.set_cons_succ, List.set_cons_succ, alikeL, h.1, alikeL_set l m k p q h.2 g]; rfl
  | [], _ :: _, _, _, _, h, _ => by cases h
  | _ :: _, [], _, _, _, h, _ => by cases h
/-- The variable of what is put: where it lies, and what it holds. -/
def PV (w : World) (g : Nat) (i b : Int) (s : Bool) (c : Int) (t : Bool) : Prop := g < w.heap.size ∧ w.cell? ⟨g, 0, none⟩ = some (.int .i64 i) ∧ w.cell? ⟨g, 1, none⟩ = some (.int .u8 b) ∧ w.cell? ⟨g, 2, none⟩ = some (.bool s) ∧ w.cell? ⟨g, 3, none⟩ = some (.int .u8 c) ∧ w.cell? ⟨g, 4, none⟩ = some (.bool t)
theorem PV.next {w w' : World} {g : Nat} {i b c : Int} {s t : Bool} (h : PV w g i b s c t) (hb : Below w.heap.size w w') : PV w' g i b s c t :=
  ⟨Nat.lt_of_lt_of_le h.1 hb.size, by rw [hb.cell (p := ⟨g, 0, none⟩) h.1]; exact h.2.1, by rw [hb.cell (p := ⟨g, 1, none⟩) h.1]; exact h.2.2.1, by rw [hb.cell (p := ⟨g, 2, none⟩) h.1]; exact h.2.2.2.1, by rw [hb.cell (p := ⟨g, 3, none⟩) h.1]; exact h.2.2.2.2.1, by rw [hb.cell (p := ⟨g, 4, none⟩) h.1]; exact h.2.2.2.2.2⟩
theorem puts (m n : List (Int × Bool)) (i b c : Int) (s t : Bool) (hal : alikeL m n = true) (hb : alikeB b s c t = true) (hm : m.length ≤ 300) :
    ∃ (X Y : List (Int × Bool)) (x : Int), alikeL X Y = true ∧ X.length ≤ 300 ∧ Y.length ≤ 300 ∧ (∀ v W, Rd W v m → Calls Try.prog 28 #[v, .int .i64 i, .agg #[.int .u8 b, .bool s]] W (StoreP X x W)) ∧
      (∀ v W, Rd W v n → Calls Try.prog 28 #[v, .int .i64 i, .agg #[.int .u8 c, .bool t]] W (StoreP Y x W)) := by
  have hl := alikeL_size hal
  by_cases hin : 0 ≤ i ∧ i < m.length
  · obtain ⟨k, rfl⟩ := Int.eq_ofNat_of_zero_le hin.1
    exact ⟨m.set k (b, s), n.set k (c, t), 0, alikeL_set m n k (b, s) (c, t) hal hb, by rw [nth_set_len]; exact hm, by rw [nth_set_len]; omega, fun v W h => store_yes m v k b s W h (by omega) (by omega), fun v W h => store_yes n v k c t W h (by omega) (by omega)⟩
  · exact ⟨m, n, 2, hal, hm, by omega, fun v W h => store_no m v i b s W h (by omega) (by omega), fun v W h => store_no n v i c t W h (by omega) (by omega)⟩

set_option maxRecDepth 100000 in
set_option maxHeartbeats 2000000 in
theorem alike_walk (sv tv : Value) (l l2 : List (Int × Bool)) (i b c : Int) (s t : Bool) (w : World) (hr : Rd w sv l) (hr2 : Rd w tv l2) :
    Calls Try.prog 6 #[sv, tv, .agg #[.int .i64 i, .int .u8 b, .bool s, .int .u8 c, .bool t]] w fun e w' => e = .returned (.bool true) ∧ Below w.heap.size w w' := by
  have hb0 : Below w.heap.size w (w.alloc (.cells #[.int .i64 i, .int .u8 b, .bool s, .int .u8 c, .bool t] 48)) := (by repeat' (first | exact Below.refl _ _ | (refine Below.setCell ?_ (by first | (simp; done) | (simp; omega) | omega) _) | (refine Below.drew ?_) | (refine Below.drewN ?_ _) | (refine Below.alloc ?_ (by first | (simp; done) | (simp; omega) | omega) _)))
  have Hr := Lib.hid (hr.below hb0)
  have Hr2 := Lib.hid (hr2.below hb0)
  have hpv : PV (w.alloc (.cells #[.int .i64 i, .int .u8 b, .bool s, .int .u8 c, .bool t] 48)) w.heap.size i b s c t := ⟨(by first | (simp; done) | (simp; omega) | omega), (by simp [go_sem]), (by simp [go_sem]), (by simp [go_sem]), (by simp [go_sem]), (by simp [go_sem])⟩
  clear hr hr2
  go_enter Try.func6, Try.ntmps6
  go_wp2_with fail
  refine (fewb_ct sv l _ Hr.out).mono ?_
  rintro e w1 ⟨x, rfl, hx, rfl⟩
  go_wp2_with fail
  refine (fewb_ct tv l2 _ Hr2.out).mono ?_
  rintro e w1 ⟨y, rfl, hy, rfl⟩
  have lm : (l.take 300).length ≤ 300 := by rw [List.length_take]; omega
  have ln : (l2.take 300).length ≤ 300 := by rw [List.length_take]; omega
  clear Hr Hr2
  generalize l.take 300 = m at *
  generalize l2.take 300 = n at *
  obtain ⟨g, hg⟩ : ∃ g, g = w.heap.size := ⟨_, rfl⟩
  rw [← hg] at hpv
  rw [show (Value.pointer (some ⟨w.heap.size, 0, none⟩)) = .pointer (some ⟨g, 0, none⟩) from by rw [hg]]
  clear hg
  generalize (w.alloc (.cells #[.int .i64 i, .int .u8 b, .bool s, .int .u8 c, .bool t] 48)) = wa at *
  have hal1 := fun W h k => alikeL_ct x y m n W h k
  have hal2 := fun W h k => ralikeL_ct x y m n W h k
  have Hx := Lib.hid hx
  have Hy := Lib.hid hy
  clear hx hy
  cases ha : alikeL m n
  · rw [ha] at hal1 hal2
    go_wp2_with fail
    refine (hal1 _ Hx.out Hy.out).mono ?_
    rintro e w2 ⟨rfl, B2⟩
    replace Hx := Lib.hid (Hx.out.below B2)
    replace Hy := Lib.hid (Hy.out.below B2)
    replace hb0 := hb0.next B2
    clear B2
    go_wp2_with fail
    refine (hal2 _ Hx.out Hy.out).mono ?_
    rintro e w3 ⟨rfl, B3⟩
    replace Hx := Lib.hid (Hx.out.below B3)
    replace Hy := Lib.hid (Hy.out.below B3)
    replace hb0 := hb0.next B3
    clear B3
    go_wp2_with fail
    refine (hal2 _ Hx.out Hy.out).mono ?_
    rintro e w4 ⟨rfl, B4⟩
    replace hb0 := hb0.next B4
    clear B4 hal1 hal2 Hx Hy
    go_wp2_with fail
    refine (awake_ct _).mono ?_
    rintro e w5 ⟨rfl, B5⟩
    go_wp2
    go_ret
    exact ⟨rfl, hb0.next B5⟩
  · rw [ha] at hal1 hal2
    go_wp2_with fail
    refine (hal1 _ Hx.out Hy.out).mono ?_
    rintro e w2 ⟨rfl, B2⟩
    replace Hx := Lib.hid (Hx.out.below B2)
    replace Hy := Lib.hid (Hy.out.below B2)
    replace hb0 := hb0.next B2
    replace hpv := hpv.next B2
    clear B2
    go_wp2_with fail
    refine (hal2 _ Hx.out Hy.out).mono ?_
    rintro e w3 ⟨rfl, B3⟩
    replace Hx := Lib.hid (Hx.out.below B3)
    replace Hy := Lib.hid (Hy.out.below B3)
    replace hb0 := hb0.next B3
    replace hpv := hpv.next B3
    clear B3
    go_wp2_with fail
    refine (hal2 _ Hx.out Hy.out).mono ?_
    rintro e w4 ⟨rfl, B4⟩
    replace Hx := Lib.hid (Hx.out.below B4)
    replace Hy := Lib.hid (Hy.out.below B4)
    replace hb0 := hb0.next B4
    replace hpv := hpv.next B4
    clear B4 hal1 hal2
    have hpvs := hpv
    obtain ⟨p1, p2, p3, p4, p5, p6⟩ := hpvs
    by_cases hq : alikeB b s c t = true
    · obtain ⟨X, Y, z, hXY, hX, hY, st1, st2⟩ := puts m n i b c s t ha hq lm
      have hs := alikeB_same hq
      subst hs
      have hbc : s = false → b = c := fun e => by subst e; simpa [alikeB] using hq
      have St1 := Lib.hid st1
      have St2 := Lib.hid st2
      clear st1 st2 ha hq lm ln
      have hbe : s = false → b = c := hbc
      cases s
      · obtain rfl : b = c := hbc rfl
        clear hbc hbe
        go_wp2_with fail
        refine (St1.out x _ Hx.out).mono ?_
        rintro e w5 ⟨x2, rfl, hx2, B5⟩
        obtain ⟨xa, xcap, rfl⟩ := hx2.slice
        have Hx2 := Lib.hid hx2
        replace Hy := Lib.hid (Hy.out.below B5)
        replace hb0 := hb0.next B5
        obtain ⟨p1, p2, p3, p4, p5, p6⟩ := hpv.next B5
        clear B5 Hx hpv hx2
        go_wp2_with fail
        refine (St2.out y _ Hy.out).mono ?_
        rintro e w6 ⟨y2, rfl, hy2, B6⟩
        obtain ⟨ya, ycap, rfl⟩ := hy2.slice
        replace Hx2 := Lib.hid (Hx2.out.below B6)
        have Hy2 := Lib.hid hy2
        replace hb0 := hb0.next B6
        clear B6 Hy hy2 p1 p2 p3 p4 p5 p6
        have hal1 := alikeL_ct _ _ X Y _ Hx2.out Hy2.out
        have hal2 := ralikeL_ct _ _ X Y _ Hx2.out Hy2.out
        rw [hXY] at hal1 hal2
        go_wp2_with fail
        refine hal2.mono ?_
        rintro e w7 ⟨rfl, B7⟩
        replace Hx2 := Lib.hid (Hx2.out.below B7)
        replace Hy2 := Lib.hid (Hy2.out.below B7)
        replace hb0 := hb0.next B7
        clear B7 hal1 hal2
        have hal1 := alikeL_ct _ _ X Y _ Hx2.out Hy2.out
        rw [hXY] at hal1
        go_wp2_with fail
        refine hal1.mono ?_
        rintro e w8 ⟨rfl, B8⟩
        replace Hx2 := Lib.hid (Hx2.out.below B8)
        replace Hy2 := Lib.hid (Hy2.out.below B8)
        replace hb0 := hb0.next B8
        clear B8 hal1
        go_wp2_with fail
        refine (csecrets_ct _ X _ Hx2.out (by omega)).mono ?_
        rintro e w9 ⟨v1, T1, rfl, hv1, hM1, B9⟩
        obtain ⟨va, vcap, rfl⟩ := hv1.slice
        have Hv1 := Lib.hid hv1
        have HM1 := Lib.hid hM1
        replace Hy2 := Lib.hid (Hy2.out.below B9)
        replace hb0 := hb0.next B9
        clear B9 Hx2 hv1 hM1
        go_wp2_with fail
        refine (csecrets_ct _ Y _ Hy2.out (by omega)).mono ?_
        rintro e w10 ⟨v2, T2, rfl, hv2, hM2, B10⟩
        obtain ⟨va2, vcap2, rfl⟩ := hv2.slice
        have e1 : T2 = T1 := by
          have hl := alikeL_size hXY
          rw [← hl] at hM2
          exact (hM2.congr fun j _ => (alikeL_marks X Y j hXY).symm).uniq HM1.out
        subst e1
        have Hv2 := Lib.hid hv2
        replace Hv1 := Lib.hid (Hv1.out.below B10)
        replace hb0 := hb0.next B10
        clear B10 Hy2 hv2 hM2 HM1
        have hsr := sameR_ct _ _ T2 T2 _ Hv1.out Hv2.out
        rw [eqL_self] at hsr
        go_wp2_with fail
        refine hsr.mono ?_
        rintro e w11 ⟨rfl, B11⟩
        replace hb0 := hb0.next B11
        clear B11 hsr Hv1 Hv2
        go_wp2_with fail
        refine (awake_ct _).mono ?_
        rintro e w12 ⟨rfl, B12⟩
        go_wp2
        go_ret
        exact ⟨rfl, hb0.next B12⟩
      · clear hbc hbe
        go_wp2_with fail
        refine (St1.out x _ Hx.out).mono ?_
        rintro e w5 ⟨x2, rfl, hx2, B5⟩
        obtain ⟨xa, xcap, rfl⟩ := hx2.slice
        have Hx2 := Lib.hid hx2
        replace Hy := Lib.hid (Hy.out.below B5)
        replace hb0 := hb0.next B5
        obtain ⟨p1, p2, p3, p4, p5, p6⟩ := hpv.next B5
        clear B5 Hx hpv hx2
        go_wp2_with fail
        refine (St2.out y _ Hy.out).mono ?_
        rintro e w6 ⟨y2, rfl, hy2, B6⟩
        obtain ⟨ya, ycap, rfl⟩ := hy2.slice
        replace Hx2 := Lib.hid (Hx2.out.below B6)
        have Hy2 := Lib.hid hy2
        replace hb0 := hb0.next B6
        clear B6 Hy hy2 p1 p2 p3 p4 p5 p6
        have hal1 := alikeL_ct _ _ X Y _ Hx2.out Hy2.out
        have hal2 := ralikeL_ct _ _ X Y _ Hx2.out Hy2.out
        rw [hXY] at hal1 hal2
        go_wp2_with fail
        refine hal2.mono ?_
        rintro e w7 ⟨rfl, B7⟩
        replace Hx2 := Lib.hid (Hx2.out.below B7)
        replace Hy2 := Lib.hid (Hy2.out.below B7)
        replace hb0 := hb0.next B7
        clear B7 hal1 hal2
        have hal1 := alikeL_ct _ _ X Y _ Hx2.out Hy2.out
        rw [hXY] at hal1
        go_wp2_with fail
        refine hal1.mono ?_
        rintro e w8 ⟨rfl, B8⟩
        replace Hx2 := Lib.hid (Hx2.out.below B8)
        replace Hy2 := Lib.hid (Hy2.out.below B8)
        replace hb0 := hb0.next B8
        clear B8 hal1
        go_wp2_with fail
        refine (csecrets_ct _ X _ Hx2.out (by omega)).mono ?_
        rintro e w9 ⟨v1, T1, rfl, hv1, hM1, B9⟩
        obtain ⟨va, vcap, rfl⟩ := hv1.slice
        have Hv1 := Lib.hid hv1
        have HM1 := Lib.hid hM1
        replace Hy2 := Lib.hid (Hy2.out.below B9)
        replace hb0 := hb0.next B9
        clear B9 Hx2 hv1 hM1
        go_wp2_with fail
        refine (csecrets_ct _ Y _ Hy2.out (by omega)).mono ?_
        rintro e w10 ⟨v2, T2, rfl, hv2, hM2, B10⟩
        obtain ⟨va2, vcap2, rfl⟩ := hv2.slice
        have e1 : T2 = T1 := by
          have hl := alikeL_size hXY
          rw [← hl] at hM2
          exact (hM2.congr fun j _ => (alikeL_marks X Y j hXY).symm).uniq HM1.out
        subst e1
        have Hv2 := Lib.hid hv2
        replace Hv1 := Lib.hid (Hv1.out.below B10)
        replace hb0 := hb0.next B10
        clear B10 Hy2 hv2 hM2 HM1
        have hsr := sameR_ct _ _ T2 T2 _ Hv1.out Hv2.out
        rw [eqL_self] at hsr
        go_wp2_with fail
        refine hsr.mono ?_
        rintro e w11 ⟨rfl, B11⟩
        replace hb0 := hb0.next B11
        clear B11 hsr Hv1 Hv2
        go_wp2_with fail
        refine (awake_ct _).mono ?_
        rintro e w12 ⟨rfl, B12⟩
        go_wp2
        go_ret
        exact ⟨rfl, hb0.next B12⟩
    · have hq' : (s != t) = true ∨ (s = false ∧ t = false ∧ (b != c) = true) := by
        cases s <;> cases t <;> simp [alikeB] at hq ⊢
        exact hq
      clear Hx Hy lm ln ha hpv hq
      have fin : ∀ W, Below w.heap.size w W → Calls Try.prog 16 #[] W fun e w' => e = .returned (.bool true) ∧ Below w.heap.size w w' := fun W hB => (awake_ct W).mono fun e w' h => ⟨h.1, hB.next h.2⟩
      have Hfin := Lib.hid fin
      clear fin
      rcases hq' with hq' | ⟨rfl, rfl, hq'⟩
      · cases s <;> cases t
        · cases hq'
        · clear hq'
          go_wp2_with fail
          refine (Hfin.out _ hb0).mono ?_
          rintro e w5 ⟨rfl, B5⟩
          go_wp2
          go_ret
          exact ⟨rfl, B5⟩
        · clear hq'
          go_wp2_with fail
          refine (Hfin.out _ hb0).mono ?_
          rintro e w5 ⟨rfl, B5⟩
          go_wp2
          go_ret
          exact ⟨rfl, B5⟩
        · cases hq'
      · have h1 : (b == c) = false := by simpa using hq'
        have h2 : decide (b = c) = false := by simpa using hq'
        clear hq'
        go_wp2_with fail
        refine (Hfin.out _ hb0).mono ?_
        rintro e w5 ⟨rfl, B5⟩
        go_wp2
        go_ret
        exact ⟨rfl, B5⟩
end Go.Proofs.Ytinbankkpbdlbaa
