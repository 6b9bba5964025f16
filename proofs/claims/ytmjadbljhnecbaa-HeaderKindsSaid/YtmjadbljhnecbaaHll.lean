/-
  HeaderKinds: where both have headers. Over this seat's translation; no condition.
-/
import Derived.Test.YtmjadbljhnecbaaHlk
namespace Go.Proofs.Ytmjadbljhnecbaa
open Go.RowKit

set_option maxRecDepth 100000 in
set_option maxHeartbeats 8000000 in
theorem kinds_yes (c : Crt) (w : World) (h1 : chkN (oneC c) = 0) (h2 : chkN (twoC c) = 0) : Calls Try.prog 8 #[crtV c] w fun e w' => e = .returned (.bool true) ∧ Below w.heap.size w w' := by
  have KA := Lib.hid (fun wr => hawake_ct wr)
  have hd1 := whole_made (oneC c) h1
  have hd2 := whole_made (twoC c) h2
  obtain ⟨hm, hp, hk, ho, _, _, _⟩ := chkN_zero.1 h1
  have ha : (oneC c).p = c.p := rfl
  have hb : (oneC c).k = c.k := rfl
  rw [ha, prgOk_iff] at hp
  rw [hb, chrOk_iff] at hk
  have p0 : 0 ≤ c.p := by omega
  have p1 : c.p ≤ 524288 := by omega
  have k0 : 0 ≤ c.k := by omega
  have k1 : c.k ≤ 262144 := by omega
  clear hm hp hk ho ha hb
  have g1 : givN (oneC c) = if c.o = true then 0 else c.k := rfl
  have g2 : givN (twoC c) = if c.o = true then 0 else c.k := rfl
  have gle : (if c.o = true then 0 else c.k) ≤ c.k := by split <;> omega
  have ha1 : (oneC c).p = c.p := rfl
  have ha2 : (twoC c).p = c.p := rfl
  obtain ⟨n, hn⟩ : ∃ n : Nat, c.p + c.k = (n : Int) := ⟨(c.p + c.k).toNat, by omega⟩
  have n1 : n ≤ 2000000 := by omega
  obtain ⟨q1, _, q3⟩ := hd1 (zS n)
  obtain ⟨r1, _, r3⟩ := hd2 (zS n)
  rw [g1, ha1, zS_size, if_pos (by omega)] at q3
  rw [g2, ha2, zS_size, if_pos (by omega)] at r3
  clear hd1 hd2 g1 g2 gle ha1 ha2
  have sz1 : (mkS (oneC c) ++ zS n).size ≤ maxLen := by rw [ByteArray.size_append, mkS_size, zS_size]; unfold maxLen; omega
  have sz2 : (mkS (twoC c) ++ zS n).size ≤ maxLen := by rw [ByteArray.size_append, mkS_size, zS_size]; unfold maxLen; omega
  have K1 := Lib.hid (fun wr => hmake_yes (oneC c) wr h1)
  have K2 := Lib.hid (fun wr => hmake_yes (twoC c) wr h2)
  have K3 := Lib.hid (fun wr => parse_ok (mkS (oneC c) ++ zS n) wr sz1 _ q1 q3)
  have K4 := Lib.hid (fun wr => parse_ok (mkS (twoC c) ++ zS n) wr sz2 _ r1 r3)
  have E7 : (mkS (oneC c)).extract 0 7 = (mkS (twoC c)).extract 0 7 := by apply Go.WideShapes.bytes_inj; simp [mkS, mkN, oneC, twoC, givN, strOfNums]; rfl
  have E9 : (mkS (oneC c)).extract 9 16 = (mkS (twoC c)).extract 9 16 := by apply Go.WideShapes.bytes_inj; simp [mkS, mkN, oneC, twoC, givN, strOfNums]
  have l1 := mkS_size (oneC c)
  have l2 := mkS_size (twoC c)
  have o7 : oct (mkS (oneC c)) 7 = 0 := by unfold mkS; rw [oct_nums _ _ (mkN_in _ h1)]; rfl
  have o8 : oct (mkS (oneC c)) 8 = 0 := by unfold mkS; rw [oct_nums _ _ (mkN_in _ h1)]; rfl
  clear q1 q3 r1 r3 sz1 sz2 h1 h2
  generalize mkS (oneC c) = S1 at *
  generalize mkS (twoC c) = S2 at *
  have i7 := oct_at S1 7 (by omega)
  have i8 := oct_at S1 8 (by omega)
  rw [o7] at i7
  rw [o8] at i8
  have HM := Lib.hid (fun W => make_zeros n n1 W)
  have HN : Hid (∀ W : World, (Instr.makeSlice 42 (.int .i64 (c.p + c.k)) (.int .i64 (c.p + c.k))).run Try.prog W = .ok (.slice (some ⟨W.heap.size, 0, none⟩) n n) (W.alloc (zObj n))) := Lib.hid (fun W => by rw [hn]; exact make_zeros n n1 W)
  have CZ := fun W => conv_zeros n W
  have zz := zS_size n
  generalize zS n = z at *
  clear o7 o8 hn
  unfold crtV oneC at K1 K3
  unfold crtV twoC at K2 K4
  unfold crtV
  go_enter Try.func8, Try.ntmps8
  go_upto_region 1 with fail
  go_cut [3, 4] (fun t u wx => KindCut w c t u wx)
  case first =>
    go_region
    all_goals
      go_wp2
      go_meet
      first | exact kind_cut1 w c | exact kind_cut2 w c
  case rest =>
  obtain ⟨b1, b2, rfl, rfl, hne, hl1, hl2, X1, X2, X0, B⟩ := hcut
  have hne' : b2 ≠ b1 := fun e => hne e.symm
  have hn1 : b1 ≠ w.heap.size := by omega
  have hn2 : b2 ≠ w.heap.size := by omega
  have hw1 : w.heap.size ≤ b1 := by omega
  have hw2 : w.heap.size ≤ b2 := by omega
  have HC1 := Lib.hid (((X1.set_t false).set_s 0).other hne' 7 (.bool true))
  have HC2 := Lib.hid (((X2.other hne 7 (.bool false)).other hne 1 (.int .i64 0)).set_t true)
  have HC0 := Lib.hid (((X0.other hn1 7 (.bool false)).other hn1 1 (.int .i64 0)).other hn2 7 (.bool true))
  have HB := Lib.hid (((B.setCell (p := ⟨b1, 7, none⟩) hw1 (.bool false)).setCell (p := ⟨b1, 1, none⟩) hw1 (.int .i64 0)).setCell (p := ⟨b2, 7, none⟩) hw2 (.bool true))
  dsimp only at HC1 HC2
  (skip); have X1z := X1.lt; have X10 := X1.c0; have X11 := X1.c1; have X12 := X1.c2; have X13 := X1.c3; have X14 := X1.c4; have X15 := X1.c5; have X16 := X1.c6; have X17 := X1.c7; have X18 := X1.c8; (try dsimp only at X10 X11 X12 X13 X14 X15 X16 X17 X18); have X2z := X2.lt; have X20 := X2.c0; have X21 := X2.c1; have X22 := X2.c2; have X23 := X2.c3; have X24 := X2.c4; have X25 := X2.c5; have X26 := X2.c6; have X27 := X2.c7; have X28 := X2.c8; (try dsimp only at X20 X21 X22 X23 X24 X25 X26 X27 X28); have X0z := X0.lt; have X00 := X0.c0; have X01 := X0.c1; have X02 := X0.c2; have X03 := X0.c3; have X04 := X0.c4; have X05 := X0.c5; have X06 := X0.c6; have X07 := X0.c7; have X08 := X0.c8; (try dsimp only at X00 X01 X02 X03 X04 X05 X06 X07 X08)
  have X1f := X1.free
  have X2f := X2.free
  clear X1 X2 X0 B
  go_wp2_with fail
  ((with_reducible refine (K1.out _).mono ?_))
  rintro e w1 ⟨rfl, hB⟩
  replace HC1 := Lib.hid (HC1.out.next hB)
  replace HC2 := Lib.hid (HC2.out.next hB)
  replace HC0 := Lib.hid (HC0.out.next hB)
  replace HB := Lib.hid (HB.out.next hB)
  clear hB X1z X10 X11 X12 X13 X14 X15 X16 X17 X18 X2z X20 X21 X22 X23 X24 X25 X26 X27 X28 X0z X00 X01 X02 X03 X04 X05 X06 X07 X08 X1f X2f
  have Y := HC2.out
  (skip); have Yz := Y.lt; have Y0 := Y.c0; have Y1 := Y.c1; have Y2 := Y.c2; have Y3 := Y.c3; have Y4 := Y.c4; have Y5 := Y.c5; have Y6 := Y.c6; have Y7 := Y.c7; have Y8 := Y.c8; (try dsimp only at Y0 Y1 Y2 Y3 Y4 Y5 Y6 Y7 Y8)
  clear Y
  go_wp2_with fail
  ((with_reducible refine (K2.out _).mono ?_))
  rintro e w2 ⟨rfl, hB⟩
  replace HC1 := Lib.hid (HC1.out.next hB)
  replace HC2 := Lib.hid (HC2.out.next hB)
  replace HC0 := Lib.hid (HC0.out.next hB)
  replace HB := Lib.hid (HB.out.next hB)
  clear hB Yz Y0 Y1 Y2 Y3 Y4 Y5 Y6 Y7 Y8
  have d1 : decide (600000 < c.p) = false := decide_eq_false (by omega)
  have d2 : decide (300000 < c.k) = false := decide_eq_false (by omega)
  have d3 : decide (c.p < 0) = false := decide_eq_false (by omega)
  have d4 : decide (c.k < 0) = false := decide_eq_false (by omega)
  have Q := HC0.out
  (skip); have Qz := Q.lt; have Q0 := Q.c0; have Q1 := Q.c1; have Q2 := Q.c2; have Q3 := Q.c3; have Q4 := Q.c4; have Q5 := Q.c5; have Q6 := Q.c6; have Q7 := Q.c7; have Q8 := Q.c8; (try dsimp only at Q0 Q1 Q2 Q3 Q4 Q5 Q6 Q7 Q8)
  have r2 := cell_regrown Q2
  have r3 := cell_regrown Q3
  clear Q
  go_wp2_with fail
  (refine wp_region_quiet_below (by kernel_rfl) (by kernel_rfl) ?_); (repeat (go_big_quiet_step (fail))); (refine wpQuiet_nil ?_); intro _ hw'; obtain ⟨⟨dq, osq⟩, hw''⟩ := hw'; (subst hw''); have hq := below_regrown w2 dq osq; generalize Go.Sort.grow (redrawn w2 dq) osq = wq at hq ⊢
  replace HC1 := Lib.hid (HC1.out.next hq)
  replace HC2 := Lib.hid (HC2.out.next hq)
  replace HC0 := Lib.hid (HC0.out.next hq)
  replace HB := Lib.hid (HB.out.next hq)
  clear hq r2 r3 Qz Q0 Q1 Q2 Q3 Q4 Q5 Q6 Q7 Q8
  have Q := HC0.out
  (skip); have Qz := Q.lt; have Q0 := Q.c0; have Q1 := Q.c1; have Q2 := Q.c2; have Q3 := Q.c3; have Q4 := Q.c4; have Q5 := Q.c5; have Q6 := Q.c6; have Q7 := Q.c7; have Q8 := Q.c8; (try dsimp only at Q0 Q1 Q2 Q3 Q4 Q5 Q6 Q7 Q8)
  clear Q
  go_wp2_with (first | (refine wpList_make_known _ rfl _ _ _ rfl _ _ rfl rfl (HN.out _) ?_) | (refine wpList_make_known _ rfl _ _ _ rfl _ _ rfl rfl (HM.out _) ?_))
  ((with_reducible refine (K3.out _).mono ?_))
  rintro e w3 ⟨rfl, hB⟩
  have BN : Below wq.heap.size wq w3 := (by repeat' (first | exact Below.refl _ _ | (refine Below.setCell ?_ (by first | (simp; done) | (simp; omega) | omega) _) | (refine Below.drew ?_) | (refine Below.drewN ?_ _) | (refine Below.alloc ?_ (by first | (simp; done) | (simp; omega) | omega) _) | (refine Below.trans ?_ (Below.mono hB (by first | (simp; done) | (simp; omega) | omega)))))
  replace HC1 := Lib.hid (HC1.out.next BN)
  replace HC2 := Lib.hid (HC2.out.next BN)
  replace HB := Lib.hid (HB.out.next BN)
  clear hB BN HC0 HM HN CZ Qz Q0 Q1 Q2 Q3 Q4 Q5 Q6 Q7 Q8
  have P0 := CX.new w3 ⟨c.m, 0, c.p, c.k, c.b, c.f, c.v, false, c.o⟩
  go_wp2_with fail
  ((with_reducible refine (K4.out _).mono ?_))
  rintro e w4 ⟨rfl, hB⟩
  have HP := Lib.hid (P0.next hB)
  have BN : Below w3.heap.size w3 w4 := (by repeat' (first | exact Below.refl _ _ | (refine Below.setCell ?_ (by first | (simp; done) | (simp; omega) | omega) _) | (refine Below.drew ?_) | (refine Below.drewN ?_ _) | (refine Below.alloc ?_ (by first | (simp; done) | (simp; omega) | omega) _) | (refine Below.trans ?_ (Below.mono hB (by first | (simp; done) | (simp; omega) | omega)))))
  replace HC1 := Lib.hid (HC1.out.next BN)
  replace HC2 := Lib.hid (HC2.out.next BN)
  replace HB := Lib.hid (HB.out.next BN)
  clear hB BN P0
  have X := HC1.out
  have Y := HC2.out
  have Z := HP.out
  (skip); have Xz := X.lt; have X0 := X.c0; have X1 := X.c1; have X2 := X.c2; have X3 := X.c3; have X4 := X.c4; have X5 := X.c5; have X6 := X.c6; have X7 := X.c7; have X8 := X.c8; (try dsimp only at X0 X1 X2 X3 X4 X5 X6 X7 X8); have Yz := Y.lt; have Y0 := Y.c0; have Y1 := Y.c1; have Y2 := Y.c2; have Y3 := Y.c3; have Y4 := Y.c4; have Y5 := Y.c5; have Y6 := Y.c6; have Y7 := Y.c7; have Y8 := Y.c8; (try dsimp only at Y0 Y1 Y2 Y3 Y4 Y5 Y6 Y7 Y8); have Zz := Z.lt; have Z0 := Z.c0; have Z1 := Z.c1; have Z2 := Z.c2; have Z3 := Z.c3; have Z4 := Z.c4; have Z5 := Z.c5; have Z6 := Z.c6; have Z7 := Z.c7; have Z8 := Z.c8; (try dsimp only at Z0 Z1 Z2 Z3 Z4 Z5 Z6 Z7 Z8)
  clear X Y Z
  go_wp2_with fail
  ((with_reducible refine (KA.out _).mono ?_))
  rintro e w5 ⟨rfl, hB⟩
  have BN : Below w4.heap.size w4 w5 := (by repeat' (first | exact Below.refl _ _ | (refine Below.setCell ?_ (by first | (simp; done) | (simp; omega) | omega) _) | (refine Below.drew ?_) | (refine Below.drewN ?_ _) | (refine Below.alloc ?_ (by first | (simp; done) | (simp; omega) | omega) _) | (refine Below.trans ?_ (Below.mono hB (by first | (simp; done) | (simp; omega) | omega)))))
  replace HB := Lib.hid (HB.out.next BN)
  go_wp2
  go_ret
  exact ⟨rfl, HB.out⟩
theorem kinds_walk (c : Crt) (w : World) : Calls Try.prog 8 #[crtV c] w fun e w' => e = .returned (.bool true) ∧ Below w.heap.size w w' := by
  by_cases h1 : chkN (oneC c) = 0
  · by_cases h2 : chkN (twoC c) = 0
    · exact kinds_yes c w h1 h2
    · exact kinds_no c w (.inr h2)
  · exact kinds_no c w (.inl h1)
end Go.Proofs.Ytmjadbljhnecbaa
