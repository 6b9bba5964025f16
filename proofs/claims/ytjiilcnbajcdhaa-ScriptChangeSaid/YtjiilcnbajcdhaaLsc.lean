/-
  ScriptCells' walk. Over this seat's translation.
-/
import Derived.Test.YtjiilcnbajcdhaaLsp
import Derived.Test.YtjiilcnbajcdhaaSrg
import Derived.Test.YtjiilcnbajcdhaaScm
import Derived.Test.YtjiilcnbajcdhaaFew
import Derived.Test.YtjiilcnbajcdhaaTas
import Derived.Test.YtjiilcnbajcdhaaRmk
namespace Go.Proofs.Ytjiilcnbajcdhaa
open Go.RowKit

set_option maxRecDepth 100000 in
set_option maxHeartbeats 2500000 in
theorem cells_walk (p q : Bool) (sv tv : Value) (ra sa : List (Int × Int)) (a s m : ByteArray) (rv : Value) (l : List Int) (w : World) (hr : Rg w sv ra) (ht : Rg w tv sa) (hl : Ri w rv l) (ha : a.size ≤ maxLen) (hs : s.size ≤ maxLen) (hm : m.size ≤ maxLen) :
    Calls Try.prog 3 #[polV p q sv tv, scrV a rv s m] w fun e w' => e = .returned (.bool true) ∧ Below w.heap.size w w' := by
  have K1 : Hid (∀ wr, Below w.heap.size w wr → Calls Try.prog 8 #[polV p q sv tv] wr fun e w' => e = .returned (polV p q (cut20 sv) (cut20 tv)) ∧ Below wr.heap.size wr w') := fun wr h => fewpol_ct p q sv tv ra sa wr (hr.below h) (ht.below h)
  have K2 : Hid (∀ wr, Below w.heap.size w wr → Calls Try.prog 9 #[scrV a rv s m] wr fun e w' => e = .returned (scrV (cutB 1201 a) (cut20 rv) (cutB 8193 s) (cutB 2049 m)) ∧ Below wr.heap.size wr w') := fun wr h => sfew_ct a s m rv l wr (hl.below h) ha hs hm
  have hR := rg_cut20 hr
  have hT := rg_cut20 ht
  have hL := ri_cut20 hl
  have zA := cutB_len 1201 a (by decide)
  have zS := cutB_len 8193 s (by decide)
  have zM := cutB_len 2049 m (by decide)
  obtain ⟨a1, c1, rfl, _⟩ := hr
  obtain ⟨a2, c2, rfl, _⟩ := ht
  obtain ⟨a3, c3, rfl, _⟩ := hl
  simp only [cut20_slice] at K1 K2 hR hT hL
  clear ha hs hm
  generalize ra.take 20 = RA at *
  generalize sa.take 20 = SA at *
  generalize l.take 20 = L at *
  generalize cutB 1201 a = A at *
  generalize cutB 8193 s = S at *
  generalize cutB 2049 m = M at *
  generalize ra.length = n1 at *
  generalize sa.length = n2 at *
  generalize l.length = n3 at *
  generalize min n1 20 = m1 at *
  generalize min n2 20 = m2 at *
  generalize min n3 20 = m3 at *
  have KP : Hid (∀ wr, Below w.heap.size w wr → Calls Try.prog 12 #[polV p q (.slice a1 m1 c1) (.slice a2 m2 c2)] wr fun e w' => e = .returned (.bool (polMay RA SA)) ∧ Below wr.heap.size wr w') := fun wr h => rmayp_ct p q _ _ RA SA wr (hR.below h) (hT.below h)
  have KS : Hid (∀ wr, Below w.heap.size w wr → Calls Try.prog 13 #[scrV A (.slice a3 m3 c3) S M] wr fun e w' => e = .returned (.bool (scrMay A L S M)) ∧ Below wr.heap.size wr w') := fun wr h => rmays_ct A S M _ L wr (hL.below h) zA zS zM
  have KA : Hid (∀ wr, Calls Try.prog 14 #[] wr fun e w' => e = .returned (.bool true) ∧ Below wr.heap.size wr w') := fun wr => sawake_ct wr
  have GR : Hid (∀ wr, Below w.heap.size w wr → Rg wr (.slice a1 m1 c1) RA) := fun wr h => hR.below h
  have GT : Hid (∀ wr, Below w.heap.size w wr → Rg wr (.slice a2 m2 c2) SA) := fun wr h => hT.below h
  have GL : Hid (∀ wr, Below w.heap.size w wr → Ri wr (.slice a3 m3 c3) L) := fun wr h => hL.below h
  have Z := Lib.hid (And.intro zA (And.intro zS zM))
  clear hR hT hL zA zS zM
  unfold polV at K1 KP ⊢
  unfold scrV at K2 KS ⊢
  go_enter Try.func3, Try.ntmps3
  go_upto_region 0 with fail
  go_cut [2, 3, 4] (fun s2 s3 s4 wx => s2 = .pointer (some ⟨w.heap.size, 0, none⟩) ∧ s3 = .pointer (some ⟨w.heap.size + 1, 0, none⟩) ∧ s4 = .bool false ∧ BX wx w.heap.size 25 (.bool p) (.bool q) (.slice a1 n1 c1) (.slice a2 n2 c2) ∧ BX wx (w.heap.size + 1) 28 (.string a) (.slice a3 n3 c3) (.string s) (.string m) ∧ Below w.heap.size w wx)
  case first =>
    have X := fun o => (BX.new w 25 (.bool p) (.bool q) (.slice a1 n1 c1) (.slice a2 n2 c2)).alloc o
    have Y := fun o => BX.new1 w o 28 (.string a) (.slice a3 n3 c3) (.string s) (.string m)
    go_wp2_with fail
    go_meet
    exact ⟨rfl, rfl, rfl, X _, Y _, (by repeat' (first | exact Below.refl _ _ | (refine Below.setCell ?_ (by first | (simp; done) | (simp; omega) | omega) _) | (refine Below.drew ?_) | (refine Below.drewN ?_ _) | (refine Below.alloc ?_ (by first | (simp; done) | (simp; omega) | omega) _)))⟩
  case rest =>
  obtain ⟨rfl, rfl, rfl, X, Y, B⟩ := hcut
  go_upto_region 1 with fail
  go_cut [] (fun wx => BX wx w.heap.size 25 (.bool p) (.bool q) (.slice a1 m1 c1) (.slice a2 m2 c2) ∧ BX wx (w.heap.size + 1) 28 (.string A) (.slice a3 m3 c3) (.string S) (.string M) ∧ Below w.heap.size w wx)
  case first =>
    (skip); have Xz := X.lt; have X0 := X.c0; have X1 := X.c1; have X2 := X.c2; have X3 := X.c3; have Yz := Y.lt; have Y0 := Y.c0; have Y1 := Y.c1; have Y2 := Y.c2; have Y3 := Y.c3
    have qx0 := cell_regrown X0
    have qx1 := cell_regrown X1
    have qx2 := cell_regrown X2
    have qx3 := cell_regrown X3
    have qy0 := cell_regrown Y0
    have qy1 := cell_regrown Y1
    have qy2 := cell_regrown Y2
    have qy3 := cell_regrown Y3
    have k1 := fun d os => K1.out _ (B.next (below_regrown wc d os))
    have k2 := fun d os => K2.out _ (B.next (below_regrown wc d os))
    clear X0 X1 X2 X3 Y0 Y1 Y2 Y3
    (refine wp_region_tails_below 4 (by kernel_rfl) (by kernel_rfl) ?_); (simp only [List.take_succ_cons, List.take_zero, List.drop_succ_cons, List.drop_zero]); (repeat (go_big_quiet_step ((first | (go_at_call 8; exact Calls.regrown_of (k1 _ _)) | (go_at_call 9; exact Calls.regrown_of (k2 _ _)))))); (refine wpQuiet_nil ?_); intro _ hw'; obtain ⟨⟨dq, osq⟩, hw''⟩ := hw'; (subst hw''); have hq := below_regrown wc dq osq; skip; generalize Go.Sort.grow (redrawn wc dq) osq = wq at *
    have fx := (X.next hq).free
    have fy := (Y.next hq).free
    have XQ := X.next hq
    have YQ := Y.next hq
    (skip); have XQz := XQ.lt; have XQ0 := XQ.c0; have XQ1 := XQ.c1; have XQ2 := XQ.c2; have XQ3 := XQ.c3; have YQz := YQ.lt; have YQ0 := YQ.c0; have YQ1 := YQ.c1; have YQ2 := YQ.c2; have YQ3 := YQ.c3
    go_wp2_with fail
    go_meet
    have hxy : w.heap.size + 1 ≠ w.heap.size := by omega
    exact ⟨((X.next hq).set _ _ _ _).others hxy _ _ _ _, ((Y.next hq).others hxy.symm _ _ _ _).set _ _ _ _, below_set4 (below_set4 (B.next hq) (Nat.le_refl _) _ _ _ _) (Nat.le_succ _) _ _ _ _⟩
  case rest =>
  clear X Y B
  obtain ⟨X, Y, B⟩ := hcut
  (skip); have Xz := X.lt; have X0 := X.c0; have X1 := X.c1; have X2 := X.c2; have X3 := X.c3; have Yz := Y.lt; have Y0 := Y.c0; have Y1 := Y.c1; have Y2 := Y.c2; have Y3 := Y.c3
  clear K1 K2
  cases hp : polMay RA SA
  · have KM := Lib.hid (fun wr (h : Below w.heap.size w wr) => sram_no p q _ _ RA SA A S M _ L wr (GR.out wr h) (GT.out wr h) (GL.out wr h) Z.out.1 Z.out.2.1 Z.out.2.2 (by rw [hp]; exact (by decide : (7 : Int) ≠ 0)))
    have KV := Lib.hid (fun wr (h : Below w.heap.size w wr) => ssave_no p q _ _ RA SA A S M _ L wr (GR.out wr h) (GT.out wr h) (GL.out wr h) Z.out.1 Z.out.2.1 Z.out.2.2 (by rw [hp]; exact (by decide : (7 : Int) ≠ 0)))
    rw [hp] at KP KM KV
    simp only [okC] at KM KV
    unfold polV scrV at KM KV
    clear hp GR GT GL KS
    go_wp2_with fail
    ((with_reducible refine (KM.out _ B).mono ?_))
    rintro e w1 ⟨rfl, hB⟩
    replace B := B.next hB; replace X := X.next hB; replace Y := Y.next hB; clear hB Xz X0 X1 X2 X3 Yz Y0 Y1 Y2 Y3; have Xz := X.lt; have X0 := X.c0; have X1 := X.c1; have X2 := X.c2; have X3 := X.c3; have Yz := Y.lt; have Y0 := Y.c0; have Y1 := Y.c1; have Y2 := Y.c2; have Y3 := Y.c3
    go_wp2_with fail
    ((with_reducible refine (KV.out _ B).mono ?_))
    rintro e w2 ⟨rfl, hB⟩
    replace B := B.next hB; replace X := X.next hB; replace Y := Y.next hB; clear hB Xz X0 X1 X2 X3 Yz Y0 Y1 Y2 Y3; have Xz := X.lt; have X0 := X.c0; have X1 := X.c1; have X2 := X.c2; have X3 := X.c3; have Yz := Y.lt; have Y0 := Y.c0; have Y1 := Y.c1; have Y2 := Y.c2; have Y3 := Y.c3
    go_wp2_with fail
    ((with_reducible refine (KP.out _ B).mono ?_))
    rintro e w3 ⟨rfl, hB⟩
    replace B := B.next hB; replace X := X.next hB; replace Y := Y.next hB; clear hB Xz X0 X1 X2 X3 Yz Y0 Y1 Y2 Y3; have Xz := X.lt; have X0 := X.c0; have X1 := X.c1; have X2 := X.c2; have X3 := X.c3; have Yz := Y.lt; have Y0 := Y.c0; have Y1 := Y.c1; have Y2 := Y.c2; have Y3 := Y.c3
    go_wp2_with fail
    ((with_reducible refine (KP.out _ B).mono ?_))
    rintro e w4 ⟨rfl, hB⟩
    replace B := B.next hB; replace X := X.next hB; replace Y := Y.next hB; clear hB Xz X0 X1 X2 X3 Yz Y0 Y1 Y2 Y3; have Xz := X.lt; have X0 := X.c0; have X1 := X.c1; have X2 := X.c2; have X3 := X.c3; have Yz := Y.lt; have Y0 := Y.c0; have Y1 := Y.c1; have Y2 := Y.c2; have Y3 := Y.c3
    go_wp2_with fail
    ((with_reducible refine (KA.out _).mono ?_))
    rintro e w5 ⟨rfl, hB⟩
    replace B := B.next hB
    go_wp2
    go_ret
    exact ⟨rfl, B⟩
  cases hy : scrMay A L S M
  · have KM := Lib.hid (fun wr (h : Below w.heap.size w wr) => sram_no p q _ _ RA SA A S M _ L wr (GR.out wr h) (GT.out wr h) (GL.out wr h) Z.out.1 Z.out.2.1 Z.out.2.2 (by rw [hp, hy]; decide))
    have KV := Lib.hid (fun wr (h : Below w.heap.size w wr) => ssave_no p q _ _ RA SA A S M _ L wr (GR.out wr h) (GT.out wr h) (GL.out wr h) Z.out.1 Z.out.2.1 Z.out.2.2 (by rw [hp, hy]; decide))
    rw [hp] at KP KM KV
    rw [hy] at KS KM KV
    simp only [okC, okS] at KM KV
    unfold polV scrV at KM KV
    clear hp hy GR GT GL
    go_wp2_with fail
    ((with_reducible refine (KM.out _ B).mono ?_))
    rintro e w1 ⟨rfl, hB⟩
    replace B := B.next hB; replace X := X.next hB; replace Y := Y.next hB; clear hB Xz X0 X1 X2 X3 Yz Y0 Y1 Y2 Y3; have Xz := X.lt; have X0 := X.c0; have X1 := X.c1; have X2 := X.c2; have X3 := X.c3; have Yz := Y.lt; have Y0 := Y.c0; have Y1 := Y.c1; have Y2 := Y.c2; have Y3 := Y.c3
    go_wp2_with fail
    ((with_reducible refine (KV.out _ B).mono ?_))
    rintro e w2 ⟨rfl, hB⟩
    replace B := B.next hB; replace X := X.next hB; replace Y := Y.next hB; clear hB Xz X0 X1 X2 X3 Yz Y0 Y1 Y2 Y3; have Xz := X.lt; have X0 := X.c0; have X1 := X.c1; have X2 := X.c2; have X3 := X.c3; have Yz := Y.lt; have Y0 := Y.c0; have Y1 := Y.c1; have Y2 := Y.c2; have Y3 := Y.c3
    go_wp2_with fail
    ((with_reducible refine (KP.out _ B).mono ?_))
    rintro e w3 ⟨rfl, hB⟩
    replace B := B.next hB; replace X := X.next hB; replace Y := Y.next hB; clear hB Xz X0 X1 X2 X3 Yz Y0 Y1 Y2 Y3; have Xz := X.lt; have X0 := X.c0; have X1 := X.c1; have X2 := X.c2; have X3 := X.c3; have Yz := Y.lt; have Y0 := Y.c0; have Y1 := Y.c1; have Y2 := Y.c2; have Y3 := Y.c3
    go_wp2_with fail
    ((with_reducible refine (KS.out _ B).mono ?_))
    rintro e w4 ⟨rfl, hB⟩
    replace B := B.next hB; replace X := X.next hB; replace Y := Y.next hB; clear hB Xz X0 X1 X2 X3 Yz Y0 Y1 Y2 Y3; have Xz := X.lt; have X0 := X.c0; have X1 := X.c1; have X2 := X.c2; have X3 := X.c3; have Yz := Y.lt; have Y0 := Y.c0; have Y1 := Y.c1; have Y2 := Y.c2; have Y3 := Y.c3
    go_wp2_with fail
    ((with_reducible refine (KP.out _ B).mono ?_))
    rintro e w5 ⟨rfl, hB⟩
    replace B := B.next hB; replace X := X.next hB; replace Y := Y.next hB; clear hB Xz X0 X1 X2 X3 Yz Y0 Y1 Y2 Y3; have Xz := X.lt; have X0 := X.c0; have X1 := X.c1; have X2 := X.c2; have X3 := X.c3; have Yz := Y.lt; have Y0 := Y.c0; have Y1 := Y.c1; have Y2 := Y.c2; have Y3 := Y.c3
    go_wp2_with fail
    ((with_reducible refine (KA.out _).mono ?_))
    rintro e w6 ⟨rfl, hB⟩
    replace B := B.next hB
    go_wp2
    go_ret
    exact ⟨rfl, B⟩
  obtain ⟨_, _, y3, y4, _⟩ := scrMay_iff hy
  have KM := Lib.hid (fun wr (h : Below w.heap.size w wr) => sram_yes p q _ _ RA SA A S M _ L wr (GR.out wr h) (GT.out wr h) (GL.out wr h) hp hy Z.out.1 Z.out.2.1 Z.out.2.2 y4)
  have KV := Lib.hid (fun wr (h : Below w.heap.size w wr) => ssave_yes p q _ _ RA SA A S M _ L wr (GR.out wr h) (GT.out wr h) (GL.out wr h) hp hy Z.out.1 Z.out.2.1 Z.out.2.2 y3)
  have KX : Hid (∀ wr, Below w.heap.size w wr → Calls Try.prog 16 #[.int .i64 2048, .string M, .slice a1 m1 c1] wr (RmakeP 2048 M RA wr)) := fun wr h => rmake_ct 2048 M _ RA wr (GR.out wr h) (by decide)
  have KY : Hid (∀ wr, Below w.heap.size w wr → Calls Try.prog 16 #[.int .i64 8192, .string S, .slice a2 m2 c2] wr (RmakeP 8192 S SA wr)) := fun wr h => rmake_ct 8192 S _ SA wr (GT.out wr h) (by decide)
  rw [hp] at KP
  rw [hy] at KS
  unfold polV scrV at KM KV
  clear hp hy GR GT GL y3 y4
  go_wp2_with fail
  ((with_reducible refine (KM.out _ B).mono ?_))
  rintro e w1 ⟨v, rfl, hv, hB⟩
  have Hv : Hid (∀ wr, Below w1.heap.size w1 wr → Rd wr v (mkL 2048 M RA)) := fun wr h => hv.below h
  have D1 := Below.refl w1.heap.size w1
  clear hv
  replace B := B.next hB; replace X := X.next hB; replace Y := Y.next hB; clear hB Xz X0 X1 X2 X3 Yz Y0 Y1 Y2 Y3; have Xz := X.lt; have X0 := X.c0; have X1 := X.c1; have X2 := X.c2; have X3 := X.c3; have Yz := Y.lt; have Y0 := Y.c0; have Y1 := Y.c1; have Y2 := Y.c2; have Y3 := Y.c3
  go_wp2_with fail
  ((with_reducible refine (KV.out _ B).mono ?_))
  rintro e w2 ⟨u, rfl, hu, hB⟩
  have Hu : Hid (∀ wr, Below w2.heap.size w2 wr → Rd wr u (mkL 8192 S SA)) := fun wr h => hu.below h
  have D2 := Below.refl w2.heap.size w2
  replace D1 := D1.next hB
  clear hu
  replace B := B.next hB; replace X := X.next hB; replace Y := Y.next hB; clear hB Xz X0 X1 X2 X3 Yz Y0 Y1 Y2 Y3; have Xz := X.lt; have X0 := X.c0; have X1 := X.c1; have X2 := X.c2; have X3 := X.c3; have Yz := Y.lt; have Y0 := Y.c0; have Y1 := Y.c1; have Y2 := Y.c2; have Y3 := Y.c3
  go_wp2_with fail
  ((with_reducible refine (KP.out _ B).mono ?_))
  rintro e w3 ⟨rfl, hB⟩
  replace D1 := D1.next hB
  replace D2 := D2.next hB
  replace B := B.next hB; replace X := X.next hB; replace Y := Y.next hB; clear hB Xz X0 X1 X2 X3 Yz Y0 Y1 Y2 Y3; have Xz := X.lt; have X0 := X.c0; have X1 := X.c1; have X2 := X.c2; have X3 := X.c3; have Yz := Y.lt; have Y0 := Y.c0; have Y1 := Y.c1; have Y2 := Y.c2; have Y3 := Y.c3
  go_wp2_with fail
  ((with_reducible refine (KS.out _ B).mono ?_))
  rintro e w4 ⟨rfl, hB⟩
  replace D1 := D1.next hB
  replace D2 := D2.next hB
  replace B := B.next hB; replace X := X.next hB; replace Y := Y.next hB; clear hB Xz X0 X1 X2 X3 Yz Y0 Y1 Y2 Y3; have Xz := X.lt; have X0 := X.c0; have X1 := X.c1; have X2 := X.c2; have X3 := X.c3; have Yz := Y.lt; have Y0 := Y.c0; have Y1 := Y.c1; have Y2 := Y.c2; have Y3 := Y.c3
  go_wp2_with fail
  ((with_reducible refine (KX.out _ B).mono ?_))
  rintro e w5 ⟨v2, rfl, hv2, hB⟩
  replace D1 := D1.next hB
  replace D2 := D2.next hB
  replace B := B.next hB; replace X := X.next hB; replace Y := Y.next hB; clear hB Xz X0 X1 X2 X3 Yz Y0 Y1 Y2 Y3; have Xz := X.lt; have X0 := X.c0; have X1 := X.c1; have X2 := X.c2; have X3 := X.c3; have Yz := Y.lt; have Y0 := Y.c0; have Y1 := Y.c1; have Y2 := Y.c2; have Y3 := Y.c3
  have KZ := rsame_ct v v2 _ _ w5 (Hv.out _ D1) hv2
  rw [eqL_self] at KZ
  clear hv2
  go_wp2_with fail
  ((with_reducible refine KZ.mono ?_))
  rintro e w6 ⟨rfl, hB⟩
  replace D2 := D2.next hB
  clear KZ D1
  replace B := B.next hB; replace X := X.next hB; replace Y := Y.next hB; clear hB Xz X0 X1 X2 X3 Yz Y0 Y1 Y2 Y3; have Xz := X.lt; have X0 := X.c0; have X1 := X.c1; have X2 := X.c2; have X3 := X.c3; have Yz := Y.lt; have Y0 := Y.c0; have Y1 := Y.c1; have Y2 := Y.c2; have Y3 := Y.c3
  go_wp2_with fail
  ((with_reducible refine (KY.out _ B).mono ?_))
  rintro e w7 ⟨u2, rfl, hu2, hB⟩
  replace D2 := D2.next hB
  replace B := B.next hB; replace X := X.next hB; replace Y := Y.next hB; clear hB Xz X0 X1 X2 X3 Yz Y0 Y1 Y2 Y3; have Xz := X.lt; have X0 := X.c0; have X1 := X.c1; have X2 := X.c2; have X3 := X.c3; have Yz := Y.lt; have Y0 := Y.c0; have Y1 := Y.c1; have Y2 := Y.c2; have Y3 := Y.c3
  have KZ := rsame_ct u u2 _ _ w7 (Hu.out _ D2) hu2
  rw [eqL_self] at KZ
  clear hu2
  go_wp2_with fail
  ((with_reducible refine KZ.mono ?_))
  rintro e w8 ⟨rfl, hB⟩
  clear KZ D2
  replace B := B.next hB; replace X := X.next hB; replace Y := Y.next hB; clear hB Xz X0 X1 X2 X3 Yz Y0 Y1 Y2 Y3; have Xz := X.lt; have X0 := X.c0; have X1 := X.c1; have X2 := X.c2; have X3 := X.c3; have Yz := Y.lt; have Y0 := Y.c0; have Y1 := Y.c1; have Y2 := Y.c2; have Y3 := Y.c3
  go_wp2_with fail
  ((with_reducible refine (KA.out _).mono ?_))
  rintro e w9 ⟨rfl, hB⟩
  replace B := B.next hB
  go_wp2
  go_ret
  exact ⟨rfl, B⟩
end Go.Proofs.Ytjiilcnbajcdhaa
