/-
  PolicyPrints' walk. Over this seat's translation; what the package's variables hold: Glob.
-/
import Derived.Test.YtjiilcnbajcdhaaGreatDoorFew
import Derived.Test.YtjiilcnbajcdhaaGreatDoorPsm
import Derived.Test.YtjiilcnbajcdhaaGreatDoorAwp
import Derived.Test.YtjiilcnbajcdhaaGreatDoorBx4
import Derived.Test.YtjiilcnbajcdhaaGreatDoorTas
import Derived.Test.YtjiilcnbajcdhaaGreatDoorRpm
import Derived.Test.YtjiilcnbajcdhaaGreatDoorRnp
import Derived.Test.YtjiilcnbajcdhaaGreatDoorPpr
namespace Go.Proofs.YtjiilcnbajcdhaaGreatDoor
open Go.RowKit

theorem may_natsB {n : Int} {l : List (Int × Int)} (h : areaMay n l = true) : natsB n l ∧ mayB 0 l = true := by
  unfold areaMay at h
  simp only [Bool.and_eq_true, Bool.not_eq_true'] at h
  refine ⟨fun r hr => ?_, h.1⟩
  have hw := (wholeB_iff r).1 (List.all_eq_true.1 (mayB_wholes l 0 h.1) r hr)
  refine ⟨hw.1, hw.2.1, ?_⟩
  by_cases hn : n ≤ r.2
  · have : topB n l = true := List.any_eq_true.2 ⟨r, hr, by simpa using hn⟩
    rw [h.2] at this
    cases this
  · omega
theorem pol_parts {ra sa : List (Int × Int)} (h : polMay ra sa = true) : areaMay 2048 ra = true ∧ areaMay 8192 sa = true := by
  unfold polMay at h
  simpa only [Bool.and_eq_true] using h
def PBack (p q : Bool) (ra sa : List (Int × Int)) (w : World) (e : Ending) (w' : World) : Prop :=
  ∃ sv tv, e = .returned (.tuple #[polV p q sv tv, .int .i64 0, .int .i64 0]) ∧ Rg w' sv ra ∧ Rg w' tv sa ∧ Below w.heap.size w w'
theorem parse_back (p q : Bool) (ra sa : List (Int × Int)) (w : World) (G : Glob w) (h : polMay ra sa = true) (l1 : ra.length ≤ 20) (l2 : sa.length ≤ 20) :
    Calls Tryz.prog 6 #[.string ⟨(printL p q ra sa).toArray⟩] w (PBack p q ra sa w) := by
  obtain ⟨m1, m2⟩ := pol_parts h
  obtain ⟨n1, y1⟩ := may_natsB m1
  obtain ⟨n2, y2⟩ := may_natsB m2
  obtain ⟨b1, b2, b3, b4, b5⟩ := printL_back p q ra sa n1 n2
  have hL : (⟨(printL p q ra sa).toArray⟩ : ByteArray).data.toList = printL p q ra sa := by simp
  have hs : (⟨(printL p q ra sa).toArray⟩ : ByteArray).size ≤ 4096 := by
    show (printL p q ra sa).toArray.size ≤ 4096
    have e1 : (linesP ramW ra).length ≤ 20 * 14 := by rw [linesP_length]; exact Nat.mul_le_mul l1 (by decide)
    have e2 : (linesP saveW sa).length ≤ 20 * 15 := by rw [linesP_length]; exact Nat.mul_le_mul l2 (by decide)
    have e3 : (ports1P p).length ≤ 7 := by cases p <;> decide
    have e4 : (ports2P q).length ≤ 7 := by cases q <;> decide
    rw [List.size_toArray]
    unfold printL
    simp only [List.length_append]
    omega
  refine (parse_yes _ w G hs (by rw [hL]; exact b1)).mono ?_
  rintro e w' ⟨sv, tv, ra', sa', rfl, hr, ht, h1, h2, hB⟩
  rw [hL] at h1 h2
  rw [b4] at h1
  rw [b5] at h2
  obtain rfl : ra' = ra := h1.uniq (Tidied.self y1)
  obtain rfl : sa' = sa := h2.uniq (Tidied.self y2)
  exact ⟨sv, tv, by rw [hL, b2, b3], hr, ht, hB⟩
set_option maxRecDepth 100000 in
set_option maxHeartbeats 4000000 in
theorem prints_walk (p1 q1 : Bool) (sv1 tv1 : Value) (ra1 sa1 : List (Int × Int)) (p2 q2 : Bool) (sv2 tv2 : Value) (ra2 sa2 : List (Int × Int)) (w : World) (G : Glob w) (hr1 : Rg w sv1 ra1) (ht1 : Rg w tv1 sa1) (hr2 : Rg w sv2 ra2) (ht2 : Rg w tv2 sa2) :
    Calls Tryz.prog 4 #[polV p1 q1 sv1 tv1, polV p2 q2 sv2 tv2] w fun e w' => e = .returned (.bool true) ∧ Below w.heap.size w w' := by
  have KA : Hid (∀ wr, Below w.heap.size w wr → Calls Tryz.prog 9 #[] wr fun e w' => e = .returned (.bool true) ∧ Below wr.heap.size wr w') := fun wr h => pawake_ct wr (G.below h)
  have Gb : Hid (∀ w', Below w.heap.size w w' → Glob w') := fun _ hb => G.below hb
  clear G
  have K1 : Hid (∀ wr, Below w.heap.size w wr → Calls Tryz.prog 10 #[polV p1 q1 sv1 tv1] wr fun e w' => e = .returned (polV p1 q1 (cut20 sv1) (cut20 tv1)) ∧ Below wr.heap.size wr w') := fun wr h => fewpol_ct p1 q1 sv1 tv1 ra1 sa1 wr (hr1.below h) (ht1.below h)
  have K2 : Hid (∀ wr, Below w.heap.size w wr → Calls Tryz.prog 10 #[polV p2 q2 sv2 tv2] wr fun e w' => e = .returned (polV p2 q2 (cut20 sv2) (cut20 tv2)) ∧ Below wr.heap.size wr w') := fun wr h => fewpol_ct p2 q2 sv2 tv2 ra2 sa2 wr (hr2.below h) (ht2.below h)
  have gr1 := rg_cut20 hr1
  have gt1 := rg_cut20 ht1
  have gr2 := rg_cut20 hr2
  have gt2 := rg_cut20 ht2
  have y1 : (ra1.take 20).length ≤ 20 := List.length_take_le _ _
  have y2 : (sa1.take 20).length ≤ 20 := List.length_take_le _ _
  obtain ⟨a1, c1, rfl, _⟩ := hr1
  obtain ⟨b1, d1, rfl, _⟩ := ht1
  obtain ⟨a2, c2, rfl, _⟩ := hr2
  obtain ⟨b2, d2, rfl, _⟩ := ht2
  simp only [cut20_slice] at K1 gr1 gt1 K2 gr2 gt2
  generalize ra1.take 20 = RA1 at *
  generalize sa1.take 20 = SA1 at *
  generalize ra1.length = n1 at *
  generalize sa1.length = m1 at *
  generalize min n1 20 = k1 at *
  generalize min m1 20 = l1 at *
  generalize ra2.take 20 = RA2 at *
  generalize sa2.take 20 = SA2 at *
  generalize ra2.length = n2 at *
  generalize sa2.length = m2 at *
  generalize min n2 20 = k2 at *
  generalize min m2 20 = l2 at *
  have GR1 : Hid (∀ wr, Below w.heap.size w wr → Rg wr (.slice a1 k1 c1) RA1) := fun wr h => gr1.below h
  have GT1 : Hid (∀ wr, Below w.heap.size w wr → Rg wr (.slice b1 l1 d1) SA1) := fun wr h => gt1.below h
  have GR2 : Hid (∀ wr, Below w.heap.size w wr → Rg wr (.slice a2 k2 c2) RA2) := fun wr h => gr2.below h
  have GT2 : Hid (∀ wr, Below w.heap.size w wr → Rg wr (.slice b2 l2 d2) SA2) := fun wr h => gt2.below h
  clear gr1 gt1 gr2 gt2
  unfold polV at K1 K2 ⊢
  go_enter Tryz.func4, Tryz.ntmps4
  go_upto_region 0 with fail
  go_cut [2, 3, 4] (fun s2 s3 s4 wx => s2 = .pointer (some ⟨w.heap.size, 0, none⟩) ∧ s3 = .pointer (some ⟨w.heap.size + 1, 0, none⟩) ∧ s4 = .bool false ∧ BX wx w.heap.size 25 (.bool p1) (.bool q1) (.slice a1 n1 c1) (.slice b1 m1 d1) ∧ BX wx (w.heap.size + 1) 25 (.bool p2) (.bool q2) (.slice a2 n2 c2) (.slice b2 m2 d2) ∧ Below w.heap.size w wx)
  case first =>
    have X := fun o => (BX.new w 25 (.bool p1) (.bool q1) (.slice a1 n1 c1) (.slice b1 m1 d1)).alloc o
    have Y := fun o => BX.new1 w o 25 (.bool p2) (.bool q2) (.slice a2 n2 c2) (.slice b2 m2 d2)
    go_wp2_with fail
    go_meet
    exact ⟨rfl, rfl, rfl, X _, Y _, (by repeat' (first | exact Below.refl _ _ | (refine Below.setCell ?_ (by first | (simp; done) | (simp; omega) | omega) _) | (refine Below.drew ?_) | (refine Below.drewN ?_ _) | (refine Below.alloc ?_ (by first | (simp; done) | (simp; omega) | omega) _)))⟩
  case rest =>
  obtain ⟨rfl, rfl, rfl, X, Y, B⟩ := hcut
  go_upto_region 1 with fail
  go_cut [] (fun wx => BX wx w.heap.size 25 (.bool p1) (.bool q1) (.slice a1 k1 c1) (.slice b1 l1 d1) ∧ BX wx (w.heap.size + 1) 25 (.bool p2) (.bool q2) (.slice a2 k2 c2) (.slice b2 l2 d2) ∧ Below w.heap.size w wx)
  case first =>
    (skip); have Xz := X.lt; have X0 := X.c0; have X1 := X.c1; have X2 := X.c2; have X3 := X.c3; have Yz := Y.lt; have Y0 := Y.c0; have Y1 := Y.c1; have Y2 := Y.c2; have Y3 := Y.c3
    have qX0 := cell_regrown X0
    have qX1 := cell_regrown X1
    have qX2 := cell_regrown X2
    have qX3 := cell_regrown X3
    have qY0 := cell_regrown Y0
    have qY1 := cell_regrown Y1
    have qY2 := cell_regrown Y2
    have qY3 := cell_regrown Y3
    have f1 := fun d os => K1.out _ (B.next (below_regrown wc d os))
    have f2 := fun d os => K2.out _ (B.next (below_regrown wc d os))
    clear X0 X1 X2 X3 Y0 Y1 Y2 Y3
    (refine wp_region_tails_below 4 (by kernel_rfl) (by kernel_rfl) ?_); (simp only [List.take_succ_cons, List.take_zero, List.drop_succ_cons, List.drop_zero]); (repeat (go_big_quiet_step ((go_at_call 10; first | (with_reducible exact Calls.regrown_of (f1 _ _)) | (with_reducible exact Calls.regrown_of (f2 _ _)))))); (refine wpQuiet_nil ?_); intro _ hw'; obtain ⟨⟨dq, osq⟩, hw''⟩ := hw'; (subst hw''); have hq := below_regrown wc dq osq; skip; generalize Go.Sort.grow (redrawn wc dq) osq = wq at *
    have XQ := X.next hq
    have YQ := Y.next hq
    have fx := XQ.free
    have fy := YQ.free
    (skip); have XQz := XQ.lt; have XQ0 := XQ.c0; have XQ1 := XQ.c1; have XQ2 := XQ.c2; have XQ3 := XQ.c3; have YQz := YQ.lt; have YQ0 := YQ.c0; have YQ1 := YQ.c1; have YQ2 := YQ.c2; have YQ3 := YQ.c3
    go_wp2_with fail
    go_meet
    have h21 : w.heap.size + 1 ≠ w.heap.size := by omega
    exact ⟨(XQ.set _ _ _ _).others h21 _ _ _ _, (YQ.others h21.symm _ _ _ _).set _ _ _ _, below_set4 (below_set4 (B.next hq) (Nat.le_refl _) _ _ _ _) (Nat.le_succ _) _ _ _ _⟩
  case rest =>
  clear X Y B K1 K2
  obtain ⟨X, Y, B⟩ := hcut
  (skip); have Xz := X.lt; have X0 := X.c0; have X1 := X.c1; have X2 := X.c2; have X3 := X.c3; have Yz := Y.lt; have Y0 := Y.c0; have Y1 := Y.c1; have Y2 := Y.c2; have Y3 := Y.c3
  obtain ⟨es, hes⟩ : ∃ b, ((p1 == p2) && ((q1 == q2) && (eqL RA1 RA2 && eqL SA1 SA2))) = b := ⟨_, rfl⟩
  have KS := Lib.hid (fun wr (h : Below w.heap.size w wr) => ppsame_ct p1 q1 p2 q2 _ _ _ _ RA1 SA1 RA2 SA2 wr (GR1.out wr h) (GT1.out wr h) (GR2.out wr h) (GT2.out wr h))
  have KR := Lib.hid (fun wr (h : Below w.heap.size w wr) => rpsame_ct p1 q1 p2 q2 _ _ _ _ RA1 SA1 RA2 SA2 wr (GR1.out wr h) (GT1.out wr h) (GR2.out wr h) (GT2.out wr h))
  have KC := Lib.hid (fun wr (h : Below w.heap.size w wr) => pcheck_ct p1 q1 _ _ RA1 SA1 wr (GR1.out wr h) (GT1.out wr h))
  have KM := Lib.hid (fun wr (h : Below w.heap.size w wr) => rmayp_ct p1 q1 _ _ RA1 SA1 wr (GR1.out wr h) (GT1.out wr h))
  rw [hes] at KS KR
  clear hes
  unfold polV at KS KR KC KM
  cases hm : polMay RA1 SA1
  · have KP := Lib.hid (fun wr (h : Below w.heap.size w wr) => print_no p1 q1 _ _ RA1 SA1 wr (GR1.out wr h) (GT1.out wr h) hm)
    unfold polV at KP
    rw [hm] at KC KM
    simp only [okE] at KC
    clear hm
    go_wp2_with fail
    ((with_reducible refine (KP.out _ B).mono ?_))
    rintro e w1 ⟨rfl, hB⟩
    replace B := B.next hB; replace X := X.next hB; replace Y := Y.next hB; clear hB Xz X0 X1 X2 X3 Yz Y0 Y1 Y2 Y3; have Xz := X.lt; have X0 := X.c0; have X1 := X.c1; have X2 := X.c2; have X3 := X.c3; have Yz := Y.lt; have Y0 := Y.c0; have Y1 := Y.c1; have Y2 := Y.c2; have Y3 := Y.c3
    have qX0 := cell_regrown X0
    have qX1 := cell_regrown X1
    have qX2 := cell_regrown X2
    have qX3 := cell_regrown X3
    have qY0 := cell_regrown Y0
    have qY1 := cell_regrown Y1
    have qY2 := cell_regrown Y2
    have qY3 := cell_regrown Y3
    have g1 := fun d os => KC.out _ (B.next (below_regrown w1 d os))
    have g2 := fun d os => KM.out _ (B.next (below_regrown w1 d os))
    have g3 := fun d os => KS.out _ (B.next (below_regrown w1 d os))
    have g4 := fun d os => KR.out _ (B.next (below_regrown w1 d os))
    go_wp2_with fail
    (refine wp_region_quiet_below (by kernel_rfl) (by kernel_rfl) ?_); (repeat (go_big_quiet_step ((first | (go_at_call 12; exact Calls.regrown_of (g1 _ _)) | (go_at_call 13; exact Calls.regrown_of (g2 _ _)) | (go_at_call 14; exact Calls.regrown_of (g3 _ _)) | (go_at_call 8; exact Calls.regrown_of (g4 _ _)))))); (refine wpQuiet_nil ?_); intro _ hw'; obtain ⟨⟨dq, osq⟩, hw''⟩ := hw'; (subst hw''); have hq := below_regrown w1 dq osq; generalize Go.Sort.grow (redrawn w1 dq) osq = wq at hq ⊢
    clear g1 g2 g3 g4 qX0 qX1 qX2 qX3 qY0 qY1 qY2 qY3
    have hB := hq
    replace B := B.next hB; replace X := X.next hB; replace Y := Y.next hB; clear hB Xz X0 X1 X2 X3 Yz Y0 Y1 Y2 Y3; have Xz := X.lt; have X0 := X.c0; have X1 := X.c1; have X2 := X.c2; have X3 := X.c3; have Yz := Y.lt; have Y0 := Y.c0; have Y1 := Y.c1; have Y2 := Y.c2; have Y3 := Y.c3
    clear hq
    go_wp2_with fail
    ((with_reducible refine (KM.out _ B).mono ?_))
    rintro e w2 ⟨rfl, hB⟩
    replace B := B.next hB; replace X := X.next hB; replace Y := Y.next hB; clear hB Xz X0 X1 X2 X3 Yz Y0 Y1 Y2 Y3; have Xz := X.lt; have X0 := X.c0; have X1 := X.c1; have X2 := X.c2; have X3 := X.c3; have Yz := Y.lt; have Y0 := Y.c0; have Y1 := Y.c1; have Y2 := Y.c2; have Y3 := Y.c3
    go_wp2_with fail
    ((with_reducible refine (KA.out _ B).mono ?_))
    rintro e w3 ⟨rfl, hB⟩
    replace B := B.next hB
    go_wp2
    go_ret
    exact ⟨rfl, B⟩
  obtain ⟨m1, m2⟩ := pol_parts hm
  have M1 := (may_natsB m1).2
  have M2 := (may_natsB m2).2
  have KP := Lib.hid (fun wr (h : Below w.heap.size w wr) => print_yes p1 q1 _ _ RA1 SA1 wr (Gb.out wr h) (GR1.out wr h) (GT1.out wr h) hm (by omega) (by omega))
  have KQ := Lib.hid (fun wr (h : Below w.heap.size w wr) => rprint_ct p1 q1 _ _ RA1 SA1 wr (GR1.out wr h) (GT1.out wr h) y1 y2 M1 M2)
  have KB := Lib.hid (fun wr (h : Below w.heap.size w wr) => parse_back p1 q1 RA1 SA1 wr (Gb.out wr h) hm y1 y2)
  generalize (⟨(printL p1 q1 RA1 SA1).toArray⟩ : ByteArray) = tx at *
  unfold polV at KP KQ
  rw [hm] at KC KM
  simp only [okE] at KC
  clear hm m1 m2 M1 M2
  go_wp2_with fail
  ((with_reducible refine (KP.out _ B).mono ?_))
  rintro e w1 ⟨rfl, hB⟩
  replace B := B.next hB; replace X := X.next hB; replace Y := Y.next hB; clear hB Xz X0 X1 X2 X3 Yz Y0 Y1 Y2 Y3; have Xz := X.lt; have X0 := X.c0; have X1 := X.c1; have X2 := X.c2; have X3 := X.c3; have Yz := Y.lt; have Y0 := Y.c0; have Y1 := Y.c1; have Y2 := Y.c2; have Y3 := Y.c3
  have qX0 := cell_regrown X0
  have qX1 := cell_regrown X1
  have qX2 := cell_regrown X2
  have qX3 := cell_regrown X3
  have qY0 := cell_regrown Y0
  have qY1 := cell_regrown Y1
  have qY2 := cell_regrown Y2
  have qY3 := cell_regrown Y3
  have g1 := fun d os => KC.out _ (B.next (below_regrown w1 d os))
  have g2 := fun d os => KM.out _ (B.next (below_regrown w1 d os))
  have g3 := fun d os => KS.out _ (B.next (below_regrown w1 d os))
  have g4 := fun d os => KR.out _ (B.next (below_regrown w1 d os))
  go_wp2_with fail
  (refine wp_region_quiet_below (by kernel_rfl) (by kernel_rfl) ?_); (repeat (go_big_quiet_step ((first | (go_at_call 12; exact Calls.regrown_of (g1 _ _)) | (go_at_call 13; exact Calls.regrown_of (g2 _ _)) | (go_at_call 14; exact Calls.regrown_of (g3 _ _)) | (go_at_call 8; exact Calls.regrown_of (g4 _ _)))))); (refine wpQuiet_nil ?_); intro _ hw'; obtain ⟨⟨dq, osq⟩, hw''⟩ := hw'; (subst hw''); have hq := below_regrown w1 dq osq; generalize Go.Sort.grow (redrawn w1 dq) osq = wq at hq ⊢
  clear g1 g2 g3 g4 qX0 qX1 qX2 qX3 qY0 qY1 qY2 qY3
  have hB := hq
  replace B := B.next hB; replace X := X.next hB; replace Y := Y.next hB; clear hB Xz X0 X1 X2 X3 Yz Y0 Y1 Y2 Y3; have Xz := X.lt; have X0 := X.c0; have X1 := X.c1; have X2 := X.c2; have X3 := X.c3; have Yz := Y.lt; have Y0 := Y.c0; have Y1 := Y.c1; have Y2 := Y.c2; have Y3 := Y.c3
  clear hq
  go_wp2_with fail
  ((with_reducible refine (KM.out _ B).mono ?_))
  rintro e w2 ⟨rfl, hB⟩
  replace B := B.next hB; replace X := X.next hB; replace Y := Y.next hB; clear hB Xz X0 X1 X2 X3 Yz Y0 Y1 Y2 Y3; have Xz := X.lt; have X0 := X.c0; have X1 := X.c1; have X2 := X.c2; have X3 := X.c3; have Yz := Y.lt; have Y0 := Y.c0; have Y1 := Y.c1; have Y2 := Y.c2; have Y3 := Y.c3
  go_wp2_with fail
  ((with_reducible refine (KB.out _ B).mono ?_))
  rintro e w3 ⟨sv, tv, rfl, hr, ht, hB⟩
  have HR : Hid (∀ wr, Below w3.heap.size w3 wr → Rg wr sv RA1) := fun wr h => hr.below h
  have HT : Hid (∀ wr, Below w3.heap.size w3 wr → Rg wr tv SA1) := fun wr h => ht.below h
  replace B := B.next hB; replace X := X.next hB; replace Y := Y.next hB; clear hB Xz X0 X1 X2 X3 Yz Y0 Y1 Y2 Y3; have Xz := X.lt; have X0 := X.c0; have X1 := X.c1; have X2 := X.c2; have X3 := X.c3; have Yz := Y.lt; have Y0 := Y.c0; have Y1 := Y.c1; have Y2 := Y.c2; have Y3 := Y.c3
  have D := Below.refl w3.heap.size w3
  have B0 := Lib.hid B
  have KZ := Lib.hid (fun wr (h : Below w3.heap.size w3 wr) => rpsame_ct p1 q1 p1 q1 sv tv _ _ RA1 SA1 RA1 SA1 wr (HR.out wr h) (HT.out wr h) (GR1.out wr (B0.out.next h)) (GT1.out wr (B0.out.next h)))
  rw [show ((p1 == p1) && ((q1 == q1) && (eqL RA1 RA1 && eqL SA1 SA1))) = true by rw [eqL_self, eqL_self]; simp] at KZ
  obtain ⟨x1, z1, rfl, _⟩ := hr
  obtain ⟨x2, z2, rfl, _⟩ := ht
  generalize RA1.length = u1 at *
  generalize SA1.length = u2 at *
  unfold polV at KZ ⊢
  go_wp2_with fail
  ((with_reducible refine (KQ.out _ (B.alloc B.size _)).mono ?_))
  rintro e w4 ⟨rfl, hB⟩
  have J := (BX.new w3 25 (.bool p1) (.bool q1) (.slice x1 u1 z1) (.slice x2 u2 z2)).next hB
  replace B := (B.alloc B.size _).next hB
  replace D := (D.alloc D.size _).next hB
  replace X := (X.alloc _).next hB
  replace Y := (Y.alloc _).next hB
  clear hB Xz X0 X1 X2 X3 Yz Y0 Y1 Y2 Y3
  (skip); have Xz := X.lt; have X0 := X.c0; have X1 := X.c1; have X2 := X.c2; have X3 := X.c3; have Yz := Y.lt; have Y0 := Y.c0; have Y1 := Y.c1; have Y2 := Y.c2; have Y3 := Y.c3; have Jz := J.lt; have J0 := J.c0; have J1 := J.c1; have J2 := J.c2; have J3 := J.c3
  go_wp2_with fail
  ((with_reducible refine (KZ.out _ D).mono ?_))
  rintro e w5 ⟨rfl, hB⟩
  replace B := B.next hB; replace X := X.next hB; replace Y := Y.next hB; replace J := J.next hB; clear hB Xz X0 X1 X2 X3 Yz Y0 Y1 Y2 Y3 Jz J0 J1 J2 J3; have Xz := X.lt; have X0 := X.c0; have X1 := X.c1; have X2 := X.c2; have X3 := X.c3; have Yz := Y.lt; have Y0 := Y.c0; have Y1 := Y.c1; have Y2 := Y.c2; have Y3 := Y.c3; have Jz := J.lt; have J0 := J.c0; have J1 := J.c1; have J2 := J.c2; have J3 := J.c3
  go_wp2_with fail
  ((with_reducible refine (KA.out _ B).mono ?_))
  rintro e w6 ⟨rfl, hB⟩
  replace B := B.next hB
  go_wp2
  go_ret
  exact ⟨rfl, B⟩
end Go.Proofs.YtjiilcnbajcdhaaGreatDoor
