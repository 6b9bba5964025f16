/-
  PolicyJoins' walk. Over this seat's translation; what the package's variables hold: Glob.
-/
import Derived.Test.YtjiilcnbajcdhaaGreatDoorFew
import Derived.Test.YtjiilcnbajcdhaaGreatDoorPsm
import Derived.Test.YtjiilcnbajcdhaaGreatDoorJmt
import Derived.Test.YtjiilcnbajcdhaaGreatDoorAwp
import Derived.Test.YtjiilcnbajcdhaaGreatDoorBx4
import Derived.Test.YtjiilcnbajcdhaaGreatDoorTas
namespace Go.Proofs.YtjiilcnbajcdhaaGreatDoor
open Go.RowKit

theorem jm_area {n : Int} {a b T : List (Int × Int)} (h : Tidied (a ++ b) T) (ha : areaMay n a = true) (hb : areaMay n b = true) : areaMay n T = true := by
  have no : ∀ l : List (Int × Int), areaMay n l = true → ∀ r ∈ l, ¬ n ≤ r.2 := fun l hl r hr hn => by
    unfold areaMay at hl
    simp only [Bool.and_eq_true, Bool.not_eq_true'] at hl
    have : topB n l = true := List.any_eq_true.2 ⟨r, hr, by simpa using hn⟩
    rw [hl.2] at this
    cases this
  have ht : topB n T = false := by
    rw [Bool.eq_false_iff]
    intro hc
    obtain ⟨r, hr, hn⟩ := List.any_eq_true.1 hc
    have hn : n ≤ r.2 := by simpa using hn
    have hw := (wholeB_iff r).1 (List.all_eq_true.1 (mayB_wholes T 0 h.1) r hr)
    have hin : inB T r.2 = true := (inB_iff T r.2).2 ⟨r, hr, hw.2.1, Int.le_refl _⟩
    rw [h.2] at hin
    obtain ⟨s, hs, h1, h2⟩ := (inB_iff _ _).1 hin
    rcases List.mem_append.1 hs with hs | hs
    · exact no a ha s hs (by omega)
    · exact no b hb s hs (by omega)
  unfold areaMay
  rw [h.1, ht]; rfl
theorem jm_pol {ra sa rb sb T U : List (Int × Int)} (h : Tidied (ra ++ rb) T) (k : Tidied (sa ++ sb) U) (m1 : polMay ra sa = true) (m2 : polMay rb sb = true) : polMay T U = true := by
  unfold polMay at m1 m2 ⊢
  rw [Bool.and_eq_true] at m1 m2
  rw [jm_area h m1.1 m2.1, jm_area k m1.2 m2.2]; rfl
theorem polMay_may {ra sa : List (Int × Int)} (h : polMay ra sa = true) : mayB 0 ra = true ∧ mayB 0 sa = true := by
  unfold polMay areaMay at h
  simp only [Bool.and_eq_true] at h
  exact ⟨h.1.1, h.2.1⟩
theorem eqL_true {α : Type} [DecidableEq α] {l m : List α} (h : eqL l m = true) : l = m := of_decide_eq_true h
theorem polV_eq (p q : Bool) (a b : Value) : polV p q a b = .agg #[.bool p, .bool q, a, b] := rfl

theorem covers_all (p q p2 q2 : Bool) (sv tv sv2 tv2 : Value) (ra sa rb sb : List (Int × Int)) (w : World) (h1 : Rg w sv ra) (h2 : Rg w tv sa) (h3 : Rg w sv2 rb) (h4 : Rg w tv2 sb) (m1 : polMay ra sa = true) (m2 : polMay rb sb = true)
    (h : ∀ T U, Tidied (ra ++ rb) T → Tidied (sa ++ sb) U → (((p || p2) == p) && (((q || q2) == q) && (eqL T ra && eqL U sa))) = true) :
    Calls Tryz.prog 17 #[polV p q sv tv, polV p2 q2 sv2 tv2] w fun e w' => e = .returned (.bool true) ∧ Below w.heap.size w w' :=
  (covers_yes p q p2 q2 sv tv sv2 tv2 ra sa rb sb w h1 h2 h3 h4 m1 m2).mono fun e w' ⟨T, U, hT, hU, he, hb⟩ => ⟨by rw [he, h T U hT hU], hb⟩
theorem cov_same {p q p2 q2 : Bool} {ra sa T U : List (Int × Int)} (hp : (p || p2) = p) (hq : (q || q2) = q) (hT : T = ra) (hU : U = sa) : (((p || p2) == p) && (((q || q2) == q) && (eqL T ra && eqL U sa))) = true := by
  rw [hp, hq, hT, hU, eqL_self, eqL_self]; simp
theorem cov_back {p q p2 q2 : Bool} {ra sa T U : List (Int × Int)} (h : (((p || p2) == p) && (((q || q2) == q) && (eqL T ra && eqL U sa))) = true) : (p || p2) = p ∧ (q || q2) = q ∧ T = ra ∧ U = sa := by
  simp only [Bool.and_eq_true, beq_iff_eq] at h
  exact ⟨h.1, h.2.1, eqL_true h.2.2.1, eqL_true h.2.2.2⟩
set_option maxRecDepth 100000 in
set_option maxHeartbeats 4000000 in
theorem pjoins_walk (p1 q1 : Bool) (sv1 tv1 : Value) (ra1 sa1 : List (Int × Int)) (p2 q2 : Bool) (sv2 tv2 : Value) (ra2 sa2 : List (Int × Int)) (p3 q3 : Bool) (sv3 tv3 : Value) (ra3 sa3 : List (Int × Int)) (w : World) (G : Glob w) (hr1 : Rg w sv1 ra1) (ht1 : Rg w tv1 sa1) (hr2 : Rg w sv2 ra2) (ht2 : Rg w tv2 sa2) (hr3 : Rg w sv3 ra3) (ht3 : Rg w tv3 sa3) :
    Calls Tryz.prog 5 #[polV p1 q1 sv1 tv1, polV p2 q2 sv2 tv2, polV p3 q3 sv3 tv3] w fun e w' => e = .returned (.bool true) ∧ Below w.heap.size w w' := by
  have KA : Hid (∀ wr, Below w.heap.size w wr → Calls Tryz.prog 9 #[] wr fun e w' => e = .returned (.bool true) ∧ Below wr.heap.size wr w') := fun wr h => pawake_ct wr (G.below h)
  clear G
  have K1 : Hid (∀ wr, Below w.heap.size w wr → Calls Tryz.prog 10 #[polV p1 q1 sv1 tv1] wr fun e w' => e = .returned (polV p1 q1 (cut20 sv1) (cut20 tv1)) ∧ Below wr.heap.size wr w') := fun wr h => fewpol_ct p1 q1 sv1 tv1 ra1 sa1 wr (hr1.below h) (ht1.below h)
  have K2 : Hid (∀ wr, Below w.heap.size w wr → Calls Tryz.prog 10 #[polV p2 q2 sv2 tv2] wr fun e w' => e = .returned (polV p2 q2 (cut20 sv2) (cut20 tv2)) ∧ Below wr.heap.size wr w') := fun wr h => fewpol_ct p2 q2 sv2 tv2 ra2 sa2 wr (hr2.below h) (ht2.below h)
  have K3 : Hid (∀ wr, Below w.heap.size w wr → Calls Tryz.prog 10 #[polV p3 q3 sv3 tv3] wr fun e w' => e = .returned (polV p3 q3 (cut20 sv3) (cut20 tv3)) ∧ Below wr.heap.size wr w') := fun wr h => fewpol_ct p3 q3 sv3 tv3 ra3 sa3 wr (hr3.below h) (ht3.below h)
  have gr1 := rg_cut20 hr1
  have gt1 := rg_cut20 ht1
  have gr2 := rg_cut20 hr2
  have gt2 := rg_cut20 ht2
  have gr3 := rg_cut20 hr3
  have gt3 := rg_cut20 ht3
  obtain ⟨a1, c1, rfl, _⟩ := hr1
  obtain ⟨b1, d1, rfl, _⟩ := ht1
  obtain ⟨a2, c2, rfl, _⟩ := hr2
  obtain ⟨b2, d2, rfl, _⟩ := ht2
  obtain ⟨a3, c3, rfl, _⟩ := hr3
  obtain ⟨b3, d3, rfl, _⟩ := ht3
  simp only [cut20_slice] at K1 gr1 gt1 K2 gr2 gt2 K3 gr3 gt3
  generalize ra1.take 20 = RA1 at *
  generalize sa1.take 20 = SA1 at *
  generalize ra1.length = n1 at *
  generalize sa1.length = m1 at *
  generalize min n1 20 = k1 at *
  generalize min m1 20 = l1 at *
  generalize ra2.take 20 = RA2 at *
  generalize sa2.take 20 = SA2 at *
  generalize ra2.length = n2 at *
  generalize sa2.length = m2 at *
  generalize min n2 20 = k2 at *
  generalize min m2 20 = l2 at *
  generalize ra3.take 20 = RA3 at *
  generalize sa3.take 20 = SA3 at *
  generalize ra3.length = n3 at *
  generalize sa3.length = m3 at *
  generalize min n3 20 = k3 at *
  generalize min m3 20 = l3 at *
  have GR1 : Hid (∀ wr, Below w.heap.size w wr → Rg wr (.slice a1 k1 c1) RA1) := fun wr h => gr1.below h
  have GT1 : Hid (∀ wr, Below w.heap.size w wr → Rg wr (.slice b1 l1 d1) SA1) := fun wr h => gt1.below h
  have GR2 : Hid (∀ wr, Below w.heap.size w wr → Rg wr (.slice a2 k2 c2) RA2) := fun wr h => gr2.below h
  have GT2 : Hid (∀ wr, Below w.heap.size w wr → Rg wr (.slice b2 l2 d2) SA2) := fun wr h => gt2.below h
  have GR3 : Hid (∀ wr, Below w.heap.size w wr → Rg wr (.slice a3 k3 c3) RA3) := fun wr h => gr3.below h
  have GT3 : Hid (∀ wr, Below w.heap.size w wr → Rg wr (.slice b3 l3 d3) SA3) := fun wr h => gt3.below h
  clear gr1 gt1 gr2 gt2 gr3 gt3
  unfold polV at K1 K2 K3 ⊢
  go_enter Tryz.func5, Tryz.ntmps5
  go_upto_region 0 with fail
  go_cut [3, 4, 5, 6] (fun s3 s4 s5 s6 wx => s3 = .pointer (some ⟨w.heap.size, 0, none⟩) ∧ s4 = .pointer (some ⟨w.heap.size + 1, 0, none⟩) ∧ s5 = .pointer (some ⟨w.heap.size + 1 + 1, 0, none⟩) ∧ s6 = .bool false ∧ BX wx w.heap.size 25 (.bool p1) (.bool q1) (.slice a1 n1 c1) (.slice b1 m1 d1) ∧ BX wx (w.heap.size + 1) 25 (.bool p2) (.bool q2) (.slice a2 n2 c2) (.slice b2 m2 d2) ∧ BX wx (w.heap.size + 1 + 1) 25 (.bool p3) (.bool q3) (.slice a3 n3 c3) (.slice b3 m3 d3) ∧ Below w.heap.size w wx)
  case first =>
    have X := fun o o' => ((BX.new w 25 (.bool p1) (.bool q1) (.slice a1 n1 c1) (.slice b1 m1 d1)).alloc o).alloc o'
    have Y := fun o o' => (BX.new1 w o 25 (.bool p2) (.bool q2) (.slice a2 n2 c2) (.slice b2 m2 d2)).alloc o'
    have V := fun o o' => BX.new2 w o o' 25 (.bool p3) (.bool q3) (.slice a3 n3 c3) (.slice b3 m3 d3)
    go_wp2_with fail
    go_meet
    exact ⟨rfl, rfl, rfl, rfl, X _ _, Y _ _, V _ _, (by repeat' (first | exact Below.refl _ _ | (refine Below.setCell ?_ (by first | (simp; done) | (simp; omega) | omega) _) | (refine Below.drew ?_) | (refine Below.drewN ?_ _) | (refine Below.alloc ?_ (by first | (simp; done) | (simp; omega) | omega) _)))⟩
  case rest =>
  obtain ⟨rfl, rfl, rfl, rfl, X, Y, V, B⟩ := hcut
  go_upto_region 1 with fail
  go_cut [] (fun wx => BX wx w.heap.size 25 (.bool p1) (.bool q1) (.slice a1 k1 c1) (.slice b1 l1 d1) ∧ BX wx (w.heap.size + 1) 25 (.bool p2) (.bool q2) (.slice a2 k2 c2) (.slice b2 l2 d2) ∧ BX wx (w.heap.size + 1 + 1) 25 (.bool p3) (.bool q3) (.slice a3 k3 c3) (.slice b3 l3 d3) ∧ Below w.heap.size w wx)
  case first =>
    (skip); have Xz := X.lt; have X0 := X.c0; have X1 := X.c1; have X2 := X.c2; have X3 := X.c3; have Yz := Y.lt; have Y0 := Y.c0; have Y1 := Y.c1; have Y2 := Y.c2; have Y3 := Y.c3; have Vz := V.lt; have V0 := V.c0; have V1 := V.c1; have V2 := V.c2; have V3 := V.c3
    have qX0 := cell_regrown X0
    have qX1 := cell_regrown X1
    have qX2 := cell_regrown X2
    have qX3 := cell_regrown X3
    have qY0 := cell_regrown Y0
    have qY1 := cell_regrown Y1
    have qY2 := cell_regrown Y2
    have qY3 := cell_regrown Y3
    have qV0 := cell_regrown V0
    have qV1 := cell_regrown V1
    have qV2 := cell_regrown V2
    have qV3 := cell_regrown V3
    have f1 := fun d os => K1.out _ (B.next (below_regrown wc d os))
    have f2 := fun d os => K2.out _ (B.next (below_regrown wc d os))
    have f3 := fun d os => K3.out _ (B.next (below_regrown wc d os))
    clear X0 X1 X2 X3 Y0 Y1 Y2 Y3 V0 V1 V2 V3
    (refine wp_region_tails_below 6 (by kernel_rfl) (by kernel_rfl) ?_); (simp only [List.take_succ_cons, List.take_zero, List.drop_succ_cons, List.drop_zero]); (repeat (go_big_quiet_step ((go_at_call 10; first | (with_reducible exact Calls.regrown_of (f1 _ _)) | (with_reducible exact Calls.regrown_of (f2 _ _)) | (with_reducible exact Calls.regrown_of (f3 _ _)))))); (refine wpQuiet_nil ?_); intro _ hw'; obtain ⟨⟨dq, osq⟩, hw''⟩ := hw'; (subst hw''); have hq := below_regrown wc dq osq; skip; generalize Go.Sort.grow (redrawn wc dq) osq = wq at *
    have XQ := X.next hq
    have YQ := Y.next hq
    have VQ := V.next hq
    have fx := XQ.free
    have fy := YQ.free
    have fv := VQ.free
    (skip); have XQz := XQ.lt; have XQ0 := XQ.c0; have XQ1 := XQ.c1; have XQ2 := XQ.c2; have XQ3 := XQ.c3; have YQz := YQ.lt; have YQ0 := YQ.c0; have YQ1 := YQ.c1; have YQ2 := YQ.c2; have YQ3 := YQ.c3; have VQz := VQ.lt; have VQ0 := VQ.c0; have VQ1 := VQ.c1; have VQ2 := VQ.c2; have VQ3 := VQ.c3
    go_wp2_with fail
    go_meet
    have h21 : w.heap.size + 1 ≠ w.heap.size := by omega
    have h31 : w.heap.size + 1 + 1 ≠ w.heap.size := by omega
    have h32 : w.heap.size + 1 + 1 ≠ w.heap.size + 1 := by omega
    have z2 : w.heap.size ≤ w.heap.size + 1 + 1 := by omega
    exact ⟨((XQ.set _ _ _ _).others h21 _ _ _ _).others h31 _ _ _ _, ((YQ.others h21.symm _ _ _ _).set _ _ _ _).others h32 _ _ _ _, ((VQ.others h31.symm _ _ _ _).others h32.symm _ _ _ _).set _ _ _ _, below_set4 (below_set4 (below_set4 (B.next hq) (Nat.le_refl _) _ _ _ _) (Nat.le_succ _) _ _ _ _) z2 _ _ _ _⟩
  case rest =>
  clear X Y V B K1 K2 K3
  obtain ⟨X, Y, V, B⟩ := hcut
  (skip); have Xz := X.lt; have X0 := X.c0; have X1 := X.c1; have X2 := X.c2; have X3 := X.c3; have Yz := Y.lt; have Y0 := Y.c0; have Y1 := Y.c1; have Y2 := Y.c2; have Y3 := Y.c3; have Vz := V.lt; have V0 := V.c0; have V1 := V.c1; have V2 := V.c2; have V3 := V.c3
  by_cases hno : polMay RA1 SA1 = false ∨ polMay RA2 SA2 = false
  · have KN := Lib.hid (fun wr (h : Below w.heap.size w wr) => join_no p1 q1 p2 q2 _ _ _ _ RA1 SA1 RA2 SA2 wr (GR1.out wr h) (GT1.out wr h) (GR2.out wr h) (GT2.out wr h) hno)
    unfold polV at KN
    clear hno GR1 GT1 GR2 GT2 GR3 GT3
    go_wp2_with fail
    ((with_reducible refine (KN.out _ B).mono ?_))
    rintro e w1 ⟨rfl, hB⟩
    replace B := B.next hB
    go_wp2_with fail
    ((with_reducible refine (KA.out _ (B.alloc B.size _)).mono ?_))
    rintro e w2 ⟨rfl, hB2⟩
    replace B := (B.alloc B.size _).next hB2
    go_wp2
    go_ret
    exact ⟨rfl, B⟩
  have mA : polMay RA1 SA1 = true := by cases h : polMay RA1 SA1 <;> simp_all
  have mB : polMay RA2 SA2 = true := by cases h : polMay RA2 SA2 <;> simp_all
  clear hno
  have MA := Lib.hid mA
  have MB := Lib.hid mB
  clear mA mB
  have KJ1 : Hid (∀ wr, Below w.heap.size w wr → Calls Tryz.prog 16 #[polV p1 q1 (.slice a1 k1 c1) (.slice b1 l1 d1), polV p2 q2 (.slice a2 k2 c2) (.slice b2 l2 d2)] wr (JoinYes (p1 || p2) (q1 || q2) RA1 RA2 SA1 SA2 wr)) := fun wr h => join_yes p1 q1 p2 q2 _ _ _ _ RA1 SA1 RA2 SA2 wr (GR1.out wr h) (GT1.out wr h) (GR2.out wr h) (GT2.out wr h) MA.out MB.out
  unfold polV at KJ1
  have KJ2 : Hid (∀ wr, Below w.heap.size w wr → Calls Tryz.prog 16 #[polV p2 q2 (.slice a2 k2 c2) (.slice b2 l2 d2), polV p1 q1 (.slice a1 k1 c1) (.slice b1 l1 d1)] wr (JoinYes (p2 || p1) (q2 || q1) RA2 RA1 SA2 SA1 wr)) := fun wr h => join_yes p2 q2 p1 q1 _ _ _ _ RA2 SA2 RA1 SA1 wr (GR2.out wr h) (GT2.out wr h) (GR1.out wr h) (GT1.out wr h) MB.out MA.out
  unfold polV at KJ2
  have KJ3 : Hid (∀ wr, Below w.heap.size w wr → Calls Tryz.prog 16 #[polV p1 q1 (.slice a1 k1 c1) (.slice b1 l1 d1), polV p1 q1 (.slice a1 k1 c1) (.slice b1 l1 d1)] wr (JoinYes (p1 || p1) (q1 || q1) RA1 RA1 SA1 SA1 wr)) := fun wr h => join_yes p1 q1 p1 q1 _ _ _ _ RA1 SA1 RA1 SA1 wr (GR1.out wr h) (GT1.out wr h) (GR1.out wr h) (GT1.out wr h) MA.out MA.out
  unfold polV at KJ3
  have KJ4 : Hid (∀ wr, Below w.heap.size w wr → Calls Tryz.prog 16 #[polV p1 q1 (.slice a1 k1 c1) (.slice b1 l1 d1), polV false false (.slice none 0 0) (.slice none 0 0)] wr (JoinYes (p1 || false) (q1 || false) RA1 [] SA1 [] wr)) := fun wr h => join_yes p1 q1 false false _ _ _ _ RA1 SA1 [] [] wr (GR1.out wr h) (GT1.out wr h) (rg0 wr) (rg0 wr) MA.out (by decide)
  unfold polV at KJ4
  go_wp2_with fail
  ((with_reducible refine (KJ1.out _ B).mono ?_))
  rintro e w1 ⟨sj1, tj1, T1, U1, rfl, hj, hk, hT1, hU1, hB⟩
  have HR1 : Hid (∀ wr, Below w1.heap.size w1 wr → Rg wr sj1 T1) := fun wr h => hj.below h
  have HS1 : Hid (∀ wr, Below w1.heap.size w1 wr → Rg wr tj1 U1) := fun wr h => hk.below h
  have HT1 := Lib.hid hT1
  have HU1 := Lib.hid hU1
  clear hT1 hU1
  obtain ⟨x1, y1, rfl, _⟩ := hj
  obtain ⟨z1, t1, rfl, _⟩ := hk
  obtain ⟨f1, hf1⟩ : ∃ n, T1.length = n := ⟨_, rfl⟩
  obtain ⟨g1, hg1⟩ : ∃ n, U1.length = n := ⟨_, rfl⟩
  rw [hf1] at HR1 ⊢
  rw [hg1] at HS1 ⊢
  clear hf1 hg1
  obtain ⟨P1, hP1⟩ : ∃ P, (p1 || p2) = P := ⟨_, rfl⟩
  obtain ⟨Q1, hQ1⟩ : ∃ P, (q1 || q2) = P := ⟨_, rfl⟩
  rw [hP1, hQ1]
  have HP1 := Lib.hid hP1
  have HQ1 := Lib.hid hQ1
  clear hP1 hQ1
  unfold polV
  replace B := B.next hB
  replace X := X.next hB
  replace Y := Y.next hB
  replace V := V.next hB
  have D1 := Below.refl w1.heap.size w1
  clear hB Xz X0 X1 X2 X3 Yz Y0 Y1 Y2 Y3 Vz V0 V1 V2 V3 KJ1
  (skip); have Xz := X.lt; have X0 := X.c0; have X1 := X.c1; have X2 := X.c2; have X3 := X.c3; have Yz := Y.lt; have Y0 := Y.c0; have Y1 := Y.c1; have Y2 := Y.c2; have Y3 := Y.c3; have Vz := V.lt; have V0 := V.c0; have V1 := V.c1; have V2 := V.c2; have V3 := V.c3
  go_wp2_with fail
  ((with_reducible refine (KJ2.out _ (B.alloc B.size _)).mono ?_))
  rintro e w2 ⟨sj2, tj2, T2, U2, rfl, hj, hk, hT2, hU2, hB⟩
  have HR2 : Hid (∀ wr, Below w2.heap.size w2 wr → Rg wr sj2 T2) := fun wr h => hj.below h
  have HS2 : Hid (∀ wr, Below w2.heap.size w2 wr → Rg wr tj2 U2) := fun wr h => hk.below h
  have HT2 := Lib.hid hT2
  have HU2 := Lib.hid hU2
  clear hT2 hU2
  obtain ⟨x2, y2, rfl, _⟩ := hj
  obtain ⟨z2, t2, rfl, _⟩ := hk
  obtain ⟨f2, hf2⟩ : ∃ n, T2.length = n := ⟨_, rfl⟩
  obtain ⟨g2, hg2⟩ : ∃ n, U2.length = n := ⟨_, rfl⟩
  rw [hf2] at HR2 ⊢
  rw [hg2] at HS2 ⊢
  clear hf2 hg2
  obtain ⟨P2, hP2⟩ : ∃ P, (p2 || p1) = P := ⟨_, rfl⟩
  obtain ⟨Q2, hQ2⟩ : ∃ P, (q2 || q1) = P := ⟨_, rfl⟩
  rw [hP2, hQ2]
  have HP2 := Lib.hid hP2
  have HQ2 := Lib.hid hQ2
  clear hP2 hQ2
  unfold polV
  have J := (BX.new w1 25 (.bool P1) (.bool Q1) (.slice x1 f1 y1) (.slice z1 g1 t1)).next hB
  replace B := (B.alloc B.size _).next hB
  replace X := (X.alloc _).next hB
  replace Y := (Y.alloc _).next hB
  replace V := (V.alloc _).next hB
  replace D1 := (D1.alloc D1.size _).next hB
  have D2 := Below.refl w2.heap.size w2
  clear hB Xz X0 X1 X2 X3 Yz Y0 Y1 Y2 Y3 Vz V0 V1 V2 V3 KJ2
  (skip); have Xz := X.lt; have X0 := X.c0; have X1 := X.c1; have X2 := X.c2; have X3 := X.c3; have Yz := Y.lt; have Y0 := Y.c0; have Y1 := Y.c1; have Y2 := Y.c2; have Y3 := Y.c3; have Vz := V.lt; have V0 := V.c0; have V1 := V.c1; have V2 := V.c2; have V3 := V.c3; have Jz := J.lt; have J0 := J.c0; have J1 := J.c1; have J2 := J.c2; have J3 := J.c3
  go_wp2_with fail
  ((with_reducible refine (KJ3.out _ (B.alloc B.size _)).mono ?_))
  rintro e w3 ⟨sj3, tj3, T3, U3, rfl, hj, hk, hT3, hU3, hB⟩
  have HR3 : Hid (∀ wr, Below w3.heap.size w3 wr → Rg wr sj3 T3) := fun wr h => hj.below h
  have HS3 : Hid (∀ wr, Below w3.heap.size w3 wr → Rg wr tj3 U3) := fun wr h => hk.below h
  have HT3 := Lib.hid hT3
  have HU3 := Lib.hid hU3
  clear hT3 hU3
  obtain ⟨x3, y3, rfl, _⟩ := hj
  obtain ⟨z3, t3, rfl, _⟩ := hk
  obtain ⟨f3, hf3⟩ : ∃ n, T3.length = n := ⟨_, rfl⟩
  obtain ⟨g3, hg3⟩ : ∃ n, U3.length = n := ⟨_, rfl⟩
  rw [hf3] at HR3 ⊢
  rw [hg3] at HS3 ⊢
  clear hf3 hg3
  obtain ⟨P3, hP3⟩ : ∃ P, (p1 || p1) = P := ⟨_, rfl⟩
  obtain ⟨Q3, hQ3⟩ : ∃ P, (q1 || q1) = P := ⟨_, rfl⟩
  rw [hP3, hQ3]
  have HP3 := Lib.hid hP3
  have HQ3 := Lib.hid hQ3
  clear hP3 hQ3
  unfold polV
  have K := (BX.new w2 25 (.bool P2) (.bool Q2) (.slice x2 f2 y2) (.slice z2 g2 t2)).next hB
  replace B := (B.alloc B.size _).next hB
  replace X := (X.alloc _).next hB
  replace Y := (Y.alloc _).next hB
  replace V := (V.alloc _).next hB
  replace J := (J.alloc _).next hB
  replace D1 := (D1.alloc D1.size _).next hB
  replace D2 := (D2.alloc D2.size _).next hB
  have D3 := Below.refl w3.heap.size w3
  clear hB Xz X0 X1 X2 X3 Yz Y0 Y1 Y2 Y3 Vz V0 V1 V2 V3 Jz J0 J1 J2 J3 KJ3
  (skip); have Xz := X.lt; have X0 := X.c0; have X1 := X.c1; have X2 := X.c2; have X3 := X.c3; have Yz := Y.lt; have Y0 := Y.c0; have Y1 := Y.c1; have Y2 := Y.c2; have Y3 := Y.c3; have Vz := V.lt; have V0 := V.c0; have V1 := V.c1; have V2 := V.c2; have V3 := V.c3; have Jz := J.lt; have J0 := J.c0; have J1 := J.c1; have J2 := J.c2; have J3 := J.c3; have Kz := K.lt; have K0 := K.c0; have K1 := K.c1; have K2 := K.c2; have K3 := K.c3
  go_wp2_with fail
  ((with_reducible refine (KJ4.out _ (B.alloc B.size _)).mono ?_))
  rintro e w4 ⟨sj4, tj4, T4, U4, rfl, hj, hk, hT4, hU4, hB⟩
  have HR4 : Hid (∀ wr, Below w4.heap.size w4 wr → Rg wr sj4 T4) := fun wr h => hj.below h
  have HS4 : Hid (∀ wr, Below w4.heap.size w4 wr → Rg wr tj4 U4) := fun wr h => hk.below h
  have HT4 := Lib.hid hT4
  have HU4 := Lib.hid hU4
  clear hT4 hU4
  obtain ⟨x4, y4, rfl, _⟩ := hj
  obtain ⟨z4, t4, rfl, _⟩ := hk
  obtain ⟨f4, hf4⟩ : ∃ n, T4.length = n := ⟨_, rfl⟩
  obtain ⟨g4, hg4⟩ : ∃ n, U4.length = n := ⟨_, rfl⟩
  rw [hf4] at HR4 ⊢
  rw [hg4] at HS4 ⊢
  clear hf4 hg4
  obtain ⟨P4, hP4⟩ : ∃ P, (p1 || false) = P := ⟨_, rfl⟩
  obtain ⟨Q4, hQ4⟩ : ∃ P, (q1 || false) = P := ⟨_, rfl⟩
  rw [hP4, hQ4]
  have HP4 := Lib.hid hP4
  have HQ4 := Lib.hid hQ4
  clear hP4 hQ4
  unfold polV
  have O := (BX.new w3 25 (.bool P3) (.bool Q3) (.slice x3 f3 y3) (.slice z3 g3 t3)).next hB
  replace B := (B.alloc B.size _).next hB
  replace X := (X.alloc _).next hB
  replace Y := (Y.alloc _).next hB
  replace V := (V.alloc _).next hB
  replace J := (J.alloc _).next hB
  replace K := (K.alloc _).next hB
  replace D1 := (D1.alloc D1.size _).next hB
  replace D2 := (D2.alloc D2.size _).next hB
  replace D3 := (D3.alloc D3.size _).next hB
  have D4 := Below.refl w4.heap.size w4
  clear hB Xz X0 X1 X2 X3 Yz Y0 Y1 Y2 Y3 Vz V0 V1 V2 V3 Jz J0 J1 J2 J3 Kz K0 K1 K2 K3 KJ4
  (skip); have Xz := X.lt; have X0 := X.c0; have X1 := X.c1; have X2 := X.c2; have X3 := X.c3; have Yz := Y.lt; have Y0 := Y.c0; have Y1 := Y.c1; have Y2 := Y.c2; have Y3 := Y.c3; have Vz := V.lt; have V0 := V.c0; have V1 := V.c1; have V2 := V.c2; have V3 := V.c3; have Jz := J.lt; have J0 := J.c0; have J1 := J.c1; have J2 := J.c2; have J3 := J.c3; have Kz := K.lt; have K0 := K.c0; have K1 := K.c1; have K2 := K.c2; have K3 := K.c3; have Oz := O.lt; have O0 := O.c0; have O1 := O.c1; have O2 := O.c2; have O3 := O.c3
  -- what the four came to
  have ma := Lib.hid (polMay_may MA.out)
  obtain rfl : T2 = T1 := jm_comm HT2.out HT1.out
  obtain rfl : U2 = U1 := jm_comm HU2.out HU1.out
  obtain rfl : T3 = RA1 := jm_self ma.out.1 HT3.out
  obtain rfl : U3 = SA1 := jm_self ma.out.2 HU3.out
  obtain rfl : T4 = T3 := jm_none ma.out.1 HT4.out
  obtain rfl : U4 = U3 := jm_none ma.out.2 HU4.out

  obtain rfl : P2 = P1 := by rw [← HP2.out, ← HP1.out, Bool.or_comm]
  obtain rfl : Q2 = Q1 := by rw [← HQ2.out, ← HQ1.out, Bool.or_comm]
  obtain rfl : P3 = p1 := by rw [← HP3.out, Bool.or_self]
  obtain rfl : Q3 = q1 := by rw [← HQ3.out, Bool.or_self]
  obtain rfl : P4 = P3 := by rw [← HP4.out, Bool.or_false]
  obtain rfl : Q4 = Q3 := by rw [← HQ4.out, Bool.or_false]
  clear HP2 HP3 HP4 HQ2 HQ3 HQ4 HT3 HT4 HU3 HU4 ma
  have B0 := Lib.hid B
  have KS1 := Lib.hid (fun wr (h : Below w4.heap.size w4 wr) => rpsame_ct P2 Q2 P2 Q2 _ _ _ _ T2 U2 T2 U2 wr (HR1.out _ (D1.next h)) (HS1.out _ (D1.next h)) (HR2.out _ (D2.next h)) (HS2.out _ (D2.next h)))
  rw [show ((P2 == P2) && ((Q2 == Q2) && (eqL T2 T2 && eqL U2 U2))) = true by rw [eqL_self, eqL_self]; simp] at KS1
  unfold polV at KS1
  have KS2 := Lib.hid (fun wr (h : Below w4.heap.size w4 wr) => rpsame_ct P4 Q4 P4 Q4 _ _ _ _ T4 U4 T4 U4 wr (HR3.out _ (D3.next h)) (HS3.out _ (D3.next h)) (GR1.out _ (B.next h)) (GT1.out _ (B.next h)))
  rw [show ((P4 == P4) && ((Q4 == Q4) && (eqL T4 T4 && eqL U4 U4))) = true by rw [eqL_self, eqL_self]; simp] at KS2
  unfold polV at KS2
  have KS3 := Lib.hid (fun wr (h : Below w4.heap.size w4 wr) => rpsame_ct P4 Q4 P4 Q4 _ _ _ _ T4 U4 T4 U4 wr (HR4.out _ h) (HS4.out _ h) (GR1.out _ (B.next h)) (GT1.out _ (B.next h)))
  rw [show ((P4 == P4) && ((Q4 == Q4) && (eqL T4 T4 && eqL U4 U4))) = true by rw [eqL_self, eqL_self]; simp] at KS3
  unfold polV at KS3
  have mJ := Lib.hid (jm_pol HT1.out HU1.out MA.out MB.out)
  have KC := Lib.hid (fun wr (h : Below w4.heap.size w4 wr) => pcheck_ct P2 Q2 _ _ T2 U2 wr (HR1.out _ (D1.next h)) (HS1.out _ (D1.next h)))
  rw [mJ.out] at KC
  unfold polV at KC
  simp only [okE] at KC
  have KV1 := Lib.hid (fun wr (h : Below w4.heap.size w4 wr) => covers_all P2 Q2 P4 Q4 _ _ _ _ T2 U2 T4 U4 wr (HR1.out _ (D1.next h)) (HS1.out _ (D1.next h)) (GR1.out _ (B.next h)) (GT1.out _ (B.next h)) mJ.out MA.out fun T U hT hU => cov_same (by rw [← HP1.out]; cases P4 <;> cases p2 <;> rfl) (by rw [← HQ1.out]; cases Q4 <;> cases q2 <;> rfl) (jm_left HT1.out hT) (jm_left HU1.out hU))
  have KV2 := Lib.hid (fun wr (h : Below w4.heap.size w4 wr) => covers_all P2 Q2 p2 q2 _ _ _ _ T2 U2 RA2 SA2 wr (HR1.out _ (D1.next h)) (HS1.out _ (D1.next h)) (GR2.out _ (B.next h)) (GT2.out _ (B.next h)) mJ.out MB.out fun T U hT hU => cov_same (by rw [← HP1.out]; cases P4 <;> cases p2 <;> rfl) (by rw [← HQ1.out]; cases Q4 <;> cases q2 <;> rfl) (jm_right HT1.out hT) (jm_right HU1.out hU))
  unfold polV at KV1 KV2
  go_wp2_with fail
  ((with_reducible refine (KS1.out _ (D4.alloc D4.size _)).mono ?_))
  rintro e w5 ⟨rfl, hB⟩
  have E := (BX.new w4 25 (.bool P4) (.bool Q4) (.slice x4 f4 y4) (.slice z4 g4 t4)).next hB
  replace B := (B.alloc B.size _).next hB
  replace D4 := (D4.alloc D4.size _).next hB
  replace X := (X.alloc _).next hB
  replace Y := (Y.alloc _).next hB
  replace V := (V.alloc _).next hB
  replace J := (J.alloc _).next hB
  replace K := (K.alloc _).next hB
  replace O := (O.alloc _).next hB
  clear hB Xz X0 X1 X2 X3 Yz Y0 Y1 Y2 Y3 Vz V0 V1 V2 V3 Jz J0 J1 J2 J3 Kz K0 K1 K2 K3 Oz O0 O1 O2 O3
  (skip); have Xz := X.lt; have X0 := X.c0; have X1 := X.c1; have X2 := X.c2; have X3 := X.c3; have Yz := Y.lt; have Y0 := Y.c0; have Y1 := Y.c1; have Y2 := Y.c2; have Y3 := Y.c3; have Vz := V.lt; have V0 := V.c0; have V1 := V.c1; have V2 := V.c2; have V3 := V.c3; have Jz := J.lt; have J0 := J.c0; have J1 := J.c1; have J2 := J.c2; have J3 := J.c3; have Kz := K.lt; have K0 := K.c0; have K1 := K.c1; have K2 := K.c2; have K3 := K.c3; have Oz := O.lt; have O0 := O.c0; have O1 := O.c1; have O2 := O.c2; have O3 := O.c3; have Ez := E.lt; have E0 := E.c0; have E1 := E.c1; have E2 := E.c2; have E3 := E.c3
  clear KS1
  go_wp2_with fail
  ((with_reducible refine (KS2.out _ D4).mono ?_))
  rintro e w6 ⟨rfl, hB⟩
  replace D4 := D4.next hB
  replace B := B.next hB; replace X := X.next hB; replace Y := Y.next hB; replace V := V.next hB; replace J := J.next hB; replace K := K.next hB; replace O := O.next hB; replace E := E.next hB; clear hB Xz X0 X1 X2 X3 Yz Y0 Y1 Y2 Y3 Vz V0 V1 V2 V3 Jz J0 J1 J2 J3 Kz K0 K1 K2 K3 Oz O0 O1 O2 O3 Ez E0 E1 E2 E3; have Xz := X.lt; have X0 := X.c0; have X1 := X.c1; have X2 := X.c2; have X3 := X.c3; have Yz := Y.lt; have Y0 := Y.c0; have Y1 := Y.c1; have Y2 := Y.c2; have Y3 := Y.c3; have Vz := V.lt; have V0 := V.c0; have V1 := V.c1; have V2 := V.c2; have V3 := V.c3; have Jz := J.lt; have J0 := J.c0; have J1 := J.c1; have J2 := J.c2; have J3 := J.c3; have Kz := K.lt; have K0 := K.c0; have K1 := K.c1; have K2 := K.c2; have K3 := K.c3; have Oz := O.lt; have O0 := O.c0; have O1 := O.c1; have O2 := O.c2; have O3 := O.c3; have Ez := E.lt; have E0 := E.c0; have E1 := E.c1; have E2 := E.c2; have E3 := E.c3
  go_wp2_with fail
  ((with_reducible refine (KS3.out _ D4).mono ?_))
  rintro e w7 ⟨rfl, hB⟩
  replace D4 := D4.next hB
  replace B := B.next hB; replace X := X.next hB; replace Y := Y.next hB; replace V := V.next hB; replace J := J.next hB; replace K := K.next hB; replace O := O.next hB; replace E := E.next hB; clear hB Xz X0 X1 X2 X3 Yz Y0 Y1 Y2 Y3 Vz V0 V1 V2 V3 Jz J0 J1 J2 J3 Kz K0 K1 K2 K3 Oz O0 O1 O2 O3 Ez E0 E1 E2 E3; have Xz := X.lt; have X0 := X.c0; have X1 := X.c1; have X2 := X.c2; have X3 := X.c3; have Yz := Y.lt; have Y0 := Y.c0; have Y1 := Y.c1; have Y2 := Y.c2; have Y3 := Y.c3; have Vz := V.lt; have V0 := V.c0; have V1 := V.c1; have V2 := V.c2; have V3 := V.c3; have Jz := J.lt; have J0 := J.c0; have J1 := J.c1; have J2 := J.c2; have J3 := J.c3; have Kz := K.lt; have K0 := K.c0; have K1 := K.c1; have K2 := K.c2; have K3 := K.c3; have Oz := O.lt; have O0 := O.c0; have O1 := O.c1; have O2 := O.c2; have O3 := O.c3; have Ez := E.lt; have E0 := E.c0; have E1 := E.c1; have E2 := E.c2; have E3 := E.c3
  go_wp2_with fail
  ((with_reducible refine (KC.out _ D4).mono ?_))
  rintro e w8 ⟨rfl, hB⟩
  replace D4 := D4.next hB
  replace B := B.next hB; replace X := X.next hB; replace Y := Y.next hB; replace V := V.next hB; replace J := J.next hB; replace K := K.next hB; replace O := O.next hB; replace E := E.next hB; clear hB Xz X0 X1 X2 X3 Yz Y0 Y1 Y2 Y3 Vz V0 V1 V2 V3 Jz J0 J1 J2 J3 Kz K0 K1 K2 K3 Oz O0 O1 O2 O3 Ez E0 E1 E2 E3; have Xz := X.lt; have X0 := X.c0; have X1 := X.c1; have X2 := X.c2; have X3 := X.c3; have Yz := Y.lt; have Y0 := Y.c0; have Y1 := Y.c1; have Y2 := Y.c2; have Y3 := Y.c3; have Vz := V.lt; have V0 := V.c0; have V1 := V.c1; have V2 := V.c2; have V3 := V.c3; have Jz := J.lt; have J0 := J.c0; have J1 := J.c1; have J2 := J.c2; have J3 := J.c3; have Kz := K.lt; have K0 := K.c0; have K1 := K.c1; have K2 := K.c2; have K3 := K.c3; have Oz := O.lt; have O0 := O.c0; have O1 := O.c1; have O2 := O.c2; have O3 := O.c3; have Ez := E.lt; have E0 := E.c0; have E1 := E.c1; have E2 := E.c2; have E3 := E.c3
  clear KS2 KS3 KC
  go_wp2_with fail
  ((with_reducible refine (KV1.out _ D4).mono ?_))
  rintro e w9 ⟨rfl, hB⟩
  replace D4 := D4.next hB
  replace B := B.next hB; replace X := X.next hB; replace Y := Y.next hB; replace V := V.next hB; replace J := J.next hB; replace K := K.next hB; replace O := O.next hB; replace E := E.next hB; clear hB Xz X0 X1 X2 X3 Yz Y0 Y1 Y2 Y3 Vz V0 V1 V2 V3 Jz J0 J1 J2 J3 Kz K0 K1 K2 K3 Oz O0 O1 O2 O3 Ez E0 E1 E2 E3; have Xz := X.lt; have X0 := X.c0; have X1 := X.c1; have X2 := X.c2; have X3 := X.c3; have Yz := Y.lt; have Y0 := Y.c0; have Y1 := Y.c1; have Y2 := Y.c2; have Y3 := Y.c3; have Vz := V.lt; have V0 := V.c0; have V1 := V.c1; have V2 := V.c2; have V3 := V.c3; have Jz := J.lt; have J0 := J.c0; have J1 := J.c1; have J2 := J.c2; have J3 := J.c3; have Kz := K.lt; have K0 := K.c0; have K1 := K.c1; have K2 := K.c2; have K3 := K.c3; have Oz := O.lt; have O0 := O.c0; have O1 := O.c1; have O2 := O.c2; have O3 := O.c3; have Ez := E.lt; have E0 := E.c0; have E1 := E.c1; have E2 := E.c2; have E3 := E.c3
  go_wp2_with fail
  ((with_reducible refine (KV2.out _ D4).mono ?_))
  rintro e w10 ⟨rfl, hB⟩
  replace D4 := D4.next hB
  replace B := B.next hB; replace X := X.next hB; replace Y := Y.next hB; replace V := V.next hB; replace J := J.next hB; replace K := K.next hB; replace O := O.next hB; replace E := E.next hB; clear hB Xz X0 X1 X2 X3 Yz Y0 Y1 Y2 Y3 Vz V0 V1 V2 V3 Jz J0 J1 J2 J3 Kz K0 K1 K2 K3 Oz O0 O1 O2 O3 Ez E0 E1 E2 E3; have Xz := X.lt; have X0 := X.c0; have X1 := X.c1; have X2 := X.c2; have X3 := X.c3; have Yz := Y.lt; have Y0 := Y.c0; have Y1 := Y.c1; have Y2 := Y.c2; have Y3 := Y.c3; have Vz := V.lt; have V0 := V.c0; have V1 := V.c1; have V2 := V.c2; have V3 := V.c3; have Jz := J.lt; have J0 := J.c0; have J1 := J.c1; have J2 := J.c2; have J3 := J.c3; have Kz := K.lt; have K0 := K.c0; have K1 := K.c1; have K2 := K.c2; have K3 := K.c3; have Oz := O.lt; have O0 := O.c0; have O1 := O.c1; have O2 := O.c2; have O3 := O.c3; have Ez := E.lt; have E0 := E.c0; have E1 := E.c1; have E2 := E.c2; have E3 := E.c3
  clear KV1 KV2
  cases mC : polMay RA3 SA3
  · have KN := Lib.hid (fun wr (h : Below w4.heap.size w4 wr) => covers_no p3 q3 P4 Q4 _ _ _ _ RA3 SA3 T4 U4 wr (GR3.out _ (B0.out.next h)) (GT3.out _ (B0.out.next h)) (GR1.out _ (B0.out.next h)) (GT1.out _ (B0.out.next h)) (.inl mC))
    unfold polV at KN
    clear mC
    go_wp2_with fail
    ((with_reducible refine (KN.out _ D4).mono ?_))
    rintro e w11 ⟨rfl, hB⟩
    replace D4 := D4.next hB
    replace B := B.next hB; replace X := X.next hB; replace Y := Y.next hB; replace V := V.next hB; replace J := J.next hB; replace K := K.next hB; replace O := O.next hB; replace E := E.next hB; clear hB Xz X0 X1 X2 X3 Yz Y0 Y1 Y2 Y3 Vz V0 V1 V2 V3 Jz J0 J1 J2 J3 Kz K0 K1 K2 K3 Oz O0 O1 O2 O3 Ez E0 E1 E2 E3; have Xz := X.lt; have X0 := X.c0; have X1 := X.c1; have X2 := X.c2; have X3 := X.c3; have Yz := Y.lt; have Y0 := Y.c0; have Y1 := Y.c1; have Y2 := Y.c2; have Y3 := Y.c3; have Vz := V.lt; have V0 := V.c0; have V1 := V.c1; have V2 := V.c2; have V3 := V.c3; have Jz := J.lt; have J0 := J.c0; have J1 := J.c1; have J2 := J.c2; have J3 := J.c3; have Kz := K.lt; have K0 := K.c0; have K1 := K.c1; have K2 := K.c2; have K3 := K.c3; have Oz := O.lt; have O0 := O.c0; have O1 := O.c1; have O2 := O.c2; have O3 := O.c3; have Ez := E.lt; have E0 := E.c0; have E1 := E.c1; have E2 := E.c2; have E3 := E.c3
    go_wp2_with fail
    ((with_reducible refine (KA.out _ B).mono ?_))
    rintro e wz ⟨rfl, hBz⟩
    replace B := B.next hBz
    go_wp2
    go_ret
    exact ⟨rfl, B⟩
  have KX := Lib.hid (fun wr (h : Below w4.heap.size w4 wr) => covers_yes p3 q3 P4 Q4 _ _ _ _ RA3 SA3 T4 U4 wr (GR3.out _ (B0.out.next h)) (GT3.out _ (B0.out.next h)) (GR1.out _ (B0.out.next h)) (GT1.out _ (B0.out.next h)) mC MA.out)
  have KY := Lib.hid (fun wr (h : Below w4.heap.size w4 wr) => covers_yes p3 q3 p2 q2 _ _ _ _ RA3 SA3 RA2 SA2 wr (GR3.out _ (B0.out.next h)) (GT3.out _ (B0.out.next h)) (GR2.out _ (B0.out.next h)) (GT2.out _ (B0.out.next h)) mC MB.out)
  unfold polV at KX KY
  have MC := Lib.hid mC
  clear mC
  go_wp2_with fail
  ((with_reducible refine (KX.out _ D4).mono ?_))
  rintro e w11 ⟨TA, UA, hTA, hUA, rfl, hB⟩
  replace D4 := D4.next hB
  replace B := B.next hB; replace X := X.next hB; replace Y := Y.next hB; replace V := V.next hB; replace J := J.next hB; replace K := K.next hB; replace O := O.next hB; replace E := E.next hB; clear hB Xz X0 X1 X2 X3 Yz Y0 Y1 Y2 Y3 Vz V0 V1 V2 V3 Jz J0 J1 J2 J3 Kz K0 K1 K2 K3 Oz O0 O1 O2 O3 Ez E0 E1 E2 E3; have Xz := X.lt; have X0 := X.c0; have X1 := X.c1; have X2 := X.c2; have X3 := X.c3; have Yz := Y.lt; have Y0 := Y.c0; have Y1 := Y.c1; have Y2 := Y.c2; have Y3 := Y.c3; have Vz := V.lt; have V0 := V.c0; have V1 := V.c1; have V2 := V.c2; have V3 := V.c3; have Jz := J.lt; have J0 := J.c0; have J1 := J.c1; have J2 := J.c2; have J3 := J.c3; have Kz := K.lt; have K0 := K.c0; have K1 := K.c1; have K2 := K.c2; have K3 := K.c3; have Oz := O.lt; have O0 := O.c0; have O1 := O.c1; have O2 := O.c2; have O3 := O.c3; have Ez := E.lt; have E0 := E.c0; have E1 := E.c1; have E2 := E.c2; have E3 := E.c3
  obtain ⟨r1, hr1⟩ : ∃ r, (((p3 || P4) == p3) && (((q3 || Q4) == q3) && (eqL TA RA3 && eqL UA SA3))) = r := ⟨_, rfl⟩
  rw [hr1]
  have HA := Lib.hid hTA
  have HB := Lib.hid hUA
  have Hr1 := Lib.hid hr1
  clear hTA hUA hr1 KX
  cases r1
  · go_wp2_with fail
    ((with_reducible refine (KA.out _ B).mono ?_))
    rintro e wz ⟨rfl, hBz⟩
    replace B := B.next hBz
    go_wp2
    go_ret
    exact ⟨rfl, B⟩
  go_wp2_with fail
  ((with_reducible refine (KY.out _ D4).mono ?_))
  rintro e w12 ⟨TB, UB, hTB, hUB, rfl, hB⟩
  replace D4 := D4.next hB
  replace B := B.next hB; replace X := X.next hB; replace Y := Y.next hB; replace V := V.next hB; replace J := J.next hB; replace K := K.next hB; replace O := O.next hB; replace E := E.next hB; clear hB Xz X0 X1 X2 X3 Yz Y0 Y1 Y2 Y3 Vz V0 V1 V2 V3 Jz J0 J1 J2 J3 Kz K0 K1 K2 K3 Oz O0 O1 O2 O3 Ez E0 E1 E2 E3; have Xz := X.lt; have X0 := X.c0; have X1 := X.c1; have X2 := X.c2; have X3 := X.c3; have Yz := Y.lt; have Y0 := Y.c0; have Y1 := Y.c1; have Y2 := Y.c2; have Y3 := Y.c3; have Vz := V.lt; have V0 := V.c0; have V1 := V.c1; have V2 := V.c2; have V3 := V.c3; have Jz := J.lt; have J0 := J.c0; have J1 := J.c1; have J2 := J.c2; have J3 := J.c3; have Kz := K.lt; have K0 := K.c0; have K1 := K.c1; have K2 := K.c2; have K3 := K.c3; have Oz := O.lt; have O0 := O.c0; have O1 := O.c1; have O2 := O.c2; have O3 := O.c3; have Ez := E.lt; have E0 := E.c0; have E1 := E.c1; have E2 := E.c2; have E3 := E.c3
  obtain ⟨r2, hr2⟩ : ∃ r, (((p3 || p2) == p3) && (((q3 || q2) == q3) && (eqL TB RA3 && eqL UB SA3))) = r := ⟨_, rfl⟩
  rw [hr2]
  have HC := Lib.hid hTB
  have HD := Lib.hid hUB
  have Hr2 := Lib.hid hr2
  clear hTB hUB hr2 KY
  cases r2
  · go_wp2_with fail
    ((with_reducible refine (KA.out _ B).mono ?_))
    rintro e wz ⟨rfl, hBz⟩
    replace B := B.next hBz
    go_wp2
    go_ret
    exact ⟨rfl, B⟩
  have KZ := Lib.hid (fun wr (h : Below w4.heap.size w4 wr) => covers_all p3 q3 P2 Q2 _ _ _ _ RA3 SA3 T2 U2 wr (GR3.out _ (B0.out.next h)) (GT3.out _ (B0.out.next h)) (HR1.out _ (D1.next h)) (HS1.out _ (D1.next h)) MC.out mJ.out fun T U hT hU => by
    obtain ⟨e1, e2, rfl, rfl⟩ := cov_back Hr1.out
    obtain ⟨e3, e4, rfl, rfl⟩ := cov_back Hr2.out
    exact cov_same (by rw [← HP1.out]; revert e1 e3; cases p3 <;> cases P4 <;> cases p2 <;> decide) (by rw [← HQ1.out]; revert e2 e4; cases q3 <;> cases Q4 <;> cases q2 <;> decide) (jm_up HA.out HC.out HT1.out hT) (jm_up HB.out HD.out HU1.out hU))
  unfold polV at KZ
  go_wp2_with fail
  ((with_reducible refine (KZ.out _ D4).mono ?_))
  rintro e w13 ⟨rfl, hB⟩
  replace D4 := D4.next hB
  replace B := B.next hB; replace X := X.next hB; replace Y := Y.next hB; replace V := V.next hB; replace J := J.next hB; replace K := K.next hB; replace O := O.next hB; replace E := E.next hB; clear hB Xz X0 X1 X2 X3 Yz Y0 Y1 Y2 Y3 Vz V0 V1 V2 V3 Jz J0 J1 J2 J3 Kz K0 K1 K2 K3 Oz O0 O1 O2 O3 Ez E0 E1 E2 E3; have Xz := X.lt; have X0 := X.c0; have X1 := X.c1; have X2 := X.c2; have X3 := X.c3; have Yz := Y.lt; have Y0 := Y.c0; have Y1 := Y.c1; have Y2 := Y.c2; have Y3 := Y.c3; have Vz := V.lt; have V0 := V.c0; have V1 := V.c1; have V2 := V.c2; have V3 := V.c3; have Jz := J.lt; have J0 := J.c0; have J1 := J.c1; have J2 := J.c2; have J3 := J.c3; have Kz := K.lt; have K0 := K.c0; have K1 := K.c1; have K2 := K.c2; have K3 := K.c3; have Oz := O.lt; have O0 := O.c0; have O1 := O.c1; have O2 := O.c2; have O3 := O.c3; have Ez := E.lt; have E0 := E.c0; have E1 := E.c1; have E2 := E.c2; have E3 := E.c3
  go_wp2_with fail
  ((with_reducible refine (KA.out _ B).mono ?_))
  rintro e wz ⟨rfl, hBz⟩
  replace B := B.next hBz
  go_wp2
  go_ret
  exact ⟨rfl, B⟩
end Go.Proofs.YtjiilcnbajcdhaaGreatDoor
