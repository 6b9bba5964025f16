/-
  ScriptAlike's walk. Over this seat's translation.
-/
import Derived.Test.YtjiilcnbajcdhaaLsc
import Derived.Test.YtjiilcnbajcdhaaSra
namespace Go.Proofs.Ytjiilcnbajcdhaa
open Go.RowKit

theorem alikeL_map (f g : Nat → Int × Bool) : ∀ L : List Nat, (∀ k ∈ L, alikeB (f k).1 (f k).2 (g k).1 (g k).2 = true) → alikeL (L.map f) (L.map g) = true
  | [], _ => rfl
  | k :: L, h => by
    rw [List.map_cons, List.map_cons, alikeL, h k (List.mem_cons_self ..), alikeL_map f g L fun j hj => h j (List.mem_cons_of_mem _ hj)]
    rfl
theorem agS_cells {d : List (Int × Int)} {x y : ByteArray} (n : Nat) (h : agS d x y = true) : alikeL (mkL n x d) (mkL n y d) = true := by
  obtain ⟨hz, ha⟩ := (agree_iff _ _ _).1 h
  refine alikeL_map _ _ _ fun k _ => ?_
  show alikeB (byteAt x k) (inB d k) (byteAt y k) (inB d k) = true
  unfold alikeB
  cases hi : inB d k
  · have : byteAt x k = byteAt y k := by
      by_cases hk : k < x.size
      · rcases ha k hk with e | e
        · exact e
        · rw [hi] at e; cases e
      · unfold byteAt
        rw [dif_neg hk, dif_neg (by omega)]
    simp [this]
  · rfl
theorem padS_byte (a : ByteArray) (i j : Nat) (hi : i < a.size / 2) (hj : j < 2) : padS a (i : Int) (j : Int) = byteAt a (2 * i + j) := by
  unfold padS
  rw [if_pos (by omega), show (2 * (i : Int) + (j : Int)).toNat = 2 * i + j by omega]
theorem okC_tt : okC true true = 0 := rfl
theorem refA_no {P A B' R : Bool} {c : Bool} (h : (P && (A && (B' && R))) = c) : (decide (okC P A = 0) && (decide (okC P B' = 0) && R)) = c := by
  rw [← h]; cases P <;> cases A <;> cases B' <;> cases R <;> rfl
set_option maxRecDepth 100000 in
set_option maxHeartbeats 4000000 in
theorem salike_walk (p q : Bool) (sv tv : Value) (ra sa : List (Int × Int)) (a s m : ByteArray) (rv : Value) (l : List Int) (b t n : ByteArray) (rv2 : Value) (l2 : List Int) (w : World) (hr : Rg w sv ra) (ht : Rg w tv sa) (hl : Ri w rv l) (hl2 : Ri w rv2 l2)
    (ha : a.size ≤ maxLen) (hs : s.size ≤ maxLen) (hm : m.size ≤ maxLen) (hb : b.size ≤ maxLen) (ht2 : t.size ≤ maxLen) (hn : n.size ≤ maxLen) :
    Calls Try.prog 4 #[polV p q sv tv, scrV a rv s m, scrV b rv2 t n] w fun e w' => e = .returned (.bool true) ∧ Below w.heap.size w w' := by
  have K1 : Hid (∀ wr, Below w.heap.size w wr → Calls Try.prog 8 #[polV p q sv tv] wr fun e w' => e = .returned (polV p q (cut20 sv) (cut20 tv)) ∧ Below wr.heap.size wr w') := fun wr h => fewpol_ct p q sv tv ra sa wr (hr.below h) (ht.below h)
  have K2 : Hid (∀ wr, Below w.heap.size w wr → Calls Try.prog 9 #[scrV a rv s m] wr fun e w' => e = .returned (scrV (cutB 1201 a) (cut20 rv) (cutB 8193 s) (cutB 2049 m)) ∧ Below wr.heap.size wr w') := fun wr h => sfew_ct a s m rv l wr (hl.below h) ha hs hm
  have K3 : Hid (∀ wr, Below w.heap.size w wr → Calls Try.prog 9 #[scrV b rv2 t n] wr fun e w' => e = .returned (scrV (cutB 1201 b) (cut20 rv2) (cutB 8193 t) (cutB 2049 n)) ∧ Below wr.heap.size wr w') := fun wr h => sfew_ct b t n rv2 l2 wr (hl2.below h) hb ht2 hn
  have gR := rg_cut20 hr
  have gT := rg_cut20 ht
  have gL := ri_cut20 hl
  have gM := ri_cut20 hl2
  have zA := cutB_len 1201 a (by decide)
  have zS := cutB_len 8193 s (by decide)
  have zM := cutB_len 2049 m (by decide)
  have zB := cutB_len 1201 b (by decide)
  have zT := cutB_len 8193 t (by decide)
  have zN := cutB_len 2049 n (by decide)
  obtain ⟨a1, c1, rfl, _⟩ := hr
  obtain ⟨a2, c2, rfl, _⟩ := ht
  obtain ⟨a3, c3, rfl, _⟩ := hl
  obtain ⟨a4, c4, rfl, _⟩ := hl2
  simp only [cut20_slice] at K1 K2 K3 gR gT gL gM
  clear ha hs hm hb ht2 hn
  generalize ra.take 20 = RA at *
  generalize sa.take 20 = SA at *
  generalize l.take 20 = L at *
  generalize l2.take 20 = L' at *
  generalize cutB 1201 a = A at *
  generalize cutB 8193 s = S at *
  generalize cutB 2049 m = M at *
  generalize cutB 1201 b = A' at *
  generalize cutB 8193 t = S' at *
  generalize cutB 2049 n = M' at *
  generalize ra.length = n1 at *
  generalize sa.length = n2 at *
  generalize l.length = n3 at *
  generalize l2.length = n4 at *
  generalize min n1 20 = m1 at *
  generalize min n2 20 = m2 at *
  generalize min n3 20 = m3 at *
  generalize min n4 20 = m4 at *
  have KI : Hid (∀ wr, Below w.heap.size w wr → Calls Try.prog 17 #[polV p q (.slice a1 m1 c1) (.slice a2 m2 c2), scrV A (.slice a3 m3 c3) S M, scrV A' (.slice a4 m4 c4) S' M'] wr fun e w' => e = .returned (.bool (scrAlike p q RA SA A S M L A' S' M' L')) ∧ Below wr.heap.size wr w') := fun wr h => salike_ct p q _ _ RA SA A S M _ L A' S' M' _ L' wr (gR.below h) (gT.below h) (gL.below h) (gM.below h) zA zS zM zB zT zN
  have KP : Hid (∀ wr, Below w.heap.size w wr → Calls Try.prog 12 #[polV p q (.slice a1 m1 c1) (.slice a2 m2 c2)] wr fun e w' => e = .returned (.bool (polMay RA SA)) ∧ Below wr.heap.size wr w') := fun wr h => rmayp_ct p q _ _ RA SA wr (gR.below h) (gT.below h)
  have KS : Hid (∀ wr, Below w.heap.size w wr → Calls Try.prog 13 #[scrV A (.slice a3 m3 c3) S M] wr fun e w' => e = .returned (.bool (scrMay A L S M)) ∧ Below wr.heap.size wr w') := fun wr h => rmays_ct A S M _ L wr (gL.below h) zA zS zM
  have KO : Hid (∀ wr, Below w.heap.size w wr → Calls Try.prog 13 #[scrV A' (.slice a4 m4 c4) S' M'] wr fun e w' => e = .returned (.bool (scrMay A' L' S' M')) ∧ Below wr.heap.size wr w') := fun wr h => rmays_ct A' S' M' _ L' wr (gM.below h) zB zT zN
  have KA : Hid (∀ wr, Calls Try.prog 14 #[] wr fun e w' => e = .returned (.bool true) ∧ Below wr.heap.size wr w') := fun wr => sawake_ct wr
  have GR : Hid (∀ wr, Below w.heap.size w wr → Rg wr (.slice a1 m1 c1) RA) := fun wr h => gR.below h
  have GT : Hid (∀ wr, Below w.heap.size w wr → Rg wr (.slice a2 m2 c2) SA) := fun wr h => gT.below h
  have GL : Hid (∀ wr, Below w.heap.size w wr → Ri wr (.slice a3 m3 c3) L) := fun wr h => gL.below h
  have GM : Hid (∀ wr, Below w.heap.size w wr → Ri wr (.slice a4 m4 c4) L') := fun wr h => gM.below h
  have Z := Lib.hid (And.intro zA (And.intro zS (And.intro zM (And.intro zB (And.intro zT zN)))))
  clear gR gT gL gM zA zS zM zB zT zN
  unfold polV at K1 KP KI ⊢
  unfold scrV at K2 K3 KS KO KI ⊢
  go_enter Try.func4, Try.ntmps4
  go_upto_region 0 with fail
  go_cut [3, 4, 5, 6] (fun s3 s4 s5 s6 wx => s3 = .pointer (some ⟨w.heap.size, 0, none⟩) ∧ s4 = .pointer (some ⟨w.heap.size + 1, 0, none⟩) ∧ s5 = .pointer (some ⟨w.heap.size + 1 + 1, 0, none⟩) ∧ s6 = .bool false ∧ BX wx w.heap.size 25 (.bool p) (.bool q) (.slice a1 n1 c1) (.slice a2 n2 c2) ∧ BX wx (w.heap.size + 1) 28 (.string a) (.slice a3 n3 c3) (.string s) (.string m) ∧ BX wx (w.heap.size + 1 + 1) 28 (.string b) (.slice a4 n4 c4) (.string t) (.string n) ∧ Below w.heap.size w wx)
  case first =>
    have X := fun o o' => ((BX.new w 25 (.bool p) (.bool q) (.slice a1 n1 c1) (.slice a2 n2 c2)).alloc o).alloc o'
    have Y := fun o o' => (BX.new1 w o 28 (.string a) (.slice a3 n3 c3) (.string s) (.string m)).alloc o'
    have V := fun o o' => BX.new2 w o o' 28 (.string b) (.slice a4 n4 c4) (.string t) (.string n)
    go_wp2_with fail
    go_meet
    exact ⟨rfl, rfl, rfl, rfl, X _ _, Y _ _, V _ _, (by repeat' (first | exact Below.refl _ _ | (refine Below.setCell ?_ (by first | (simp; done) | (simp; omega) | omega) _) | (refine Below.drew ?_) | (refine Below.drewN ?_ _) | (refine Below.alloc ?_ (by first | (simp; done) | (simp; omega) | omega) _)))⟩
  case rest =>
  obtain ⟨rfl, rfl, rfl, rfl, X, Y, V, B⟩ := hcut
  go_upto_region 1 with fail
  go_cut [] (fun wx => BX wx w.heap.size 25 (.bool p) (.bool q) (.slice a1 m1 c1) (.slice a2 m2 c2) ∧ BX wx (w.heap.size + 1) 28 (.string A) (.slice a3 m3 c3) (.string S) (.string M) ∧ BX wx (w.heap.size + 1 + 1) 28 (.string A') (.slice a4 m4 c4) (.string S') (.string M') ∧ Below w.heap.size w wx)
  case first =>
    (skip); have Xz := X.lt; have X0 := X.c0; have X1 := X.c1; have X2 := X.c2; have X3 := X.c3; have Yz := Y.lt; have Y0 := Y.c0; have Y1 := Y.c1; have Y2 := Y.c2; have Y3 := Y.c3; have Vz := V.lt; have V0 := V.c0; have V1 := V.c1; have V2 := V.c2; have V3 := V.c3
    have qX0 := cell_regrown X0
    have qX1 := cell_regrown X1
    have qX2 := cell_regrown X2
    have qX3 := cell_regrown X3
    have qY0 := cell_regrown Y0
    have qY1 := cell_regrown Y1
    have qY2 := cell_regrown Y2
    have qY3 := cell_regrown Y3
    have qV0 := cell_regrown V0
    have qV1 := cell_regrown V1
    have qV2 := cell_regrown V2
    have qV3 := cell_regrown V3
    have f1 := fun d os => K1.out _ (B.next (below_regrown wc d os))
    have f2 := fun d os => K2.out _ (B.next (below_regrown wc d os))
    have f3 := fun d os => K3.out _ (B.next (below_regrown wc d os))
    clear X0 X1 X2 X3 Y0 Y1 Y2 Y3 V0 V1 V2 V3
    (refine wp_region_tails_below 6 (by kernel_rfl) (by kernel_rfl) ?_); (simp only [List.take_succ_cons, List.take_zero, List.drop_succ_cons, List.drop_zero]); (repeat (go_big_quiet_step ((first | (go_at_call 8; (with_reducible exact Calls.regrown_of (f1 _ _))) | (go_at_call 9; first | (with_reducible exact Calls.regrown_of (f2 _ _)) | (with_reducible exact Calls.regrown_of (f3 _ _))))))); (refine wpQuiet_nil ?_); intro _ hw'; obtain ⟨⟨dq, osq⟩, hw''⟩ := hw'; (subst hw''); have hq := below_regrown wc dq osq; skip; generalize Go.Sort.grow (redrawn wc dq) osq = wq at *
    have XQ := X.next hq
    have YQ := Y.next hq
    have VQ := V.next hq
    have fx := XQ.free
    have fy := YQ.free
    have fv := VQ.free
    (skip); have XQz := XQ.lt; have XQ0 := XQ.c0; have XQ1 := XQ.c1; have XQ2 := XQ.c2; have XQ3 := XQ.c3; have YQz := YQ.lt; have YQ0 := YQ.c0; have YQ1 := YQ.c1; have YQ2 := YQ.c2; have YQ3 := YQ.c3; have VQz := VQ.lt; have VQ0 := VQ.c0; have VQ1 := VQ.c1; have VQ2 := VQ.c2; have VQ3 := VQ.c3
    go_wp2_with fail
    go_meet
    have h21 : w.heap.size + 1 ≠ w.heap.size := by omega
    have h31 : w.heap.size + 1 + 1 ≠ w.heap.size := by omega
    have h32 : w.heap.size + 1 + 1 ≠ w.heap.size + 1 := by omega
    have z2 : w.heap.size ≤ w.heap.size + 1 + 1 := by omega
    exact ⟨((XQ.set _ _ _ _).others h21 _ _ _ _).others h31 _ _ _ _, ((YQ.others h21.symm _ _ _ _).set _ _ _ _).others h32 _ _ _ _, ((VQ.others h31.symm _ _ _ _).others h32.symm _ _ _ _).set _ _ _ _, below_set4 (below_set4 (below_set4 (B.next hq) (Nat.le_refl _) _ _ _ _) (Nat.le_succ _) _ _ _ _) z2 _ _ _ _⟩
  case rest =>
  clear X Y V B K1 K2 K3
  obtain ⟨X, Y, V, B⟩ := hcut
  (skip); have Xz := X.lt; have X0 := X.c0; have X1 := X.c1; have X2 := X.c2; have X3 := X.c3; have Yz := Y.lt; have Y0 := Y.c0; have Y1 := Y.c1; have Y2 := Y.c2; have Y3 := Y.c3; have Vz := V.lt; have V0 := V.c0; have V1 := V.c1; have V2 := V.c2; have V3 := V.c3
  unfold scrAlike at KI
  cases hp : polMay RA SA
  · rw [hp] at KI KP
    rw [refA_no (c := false) (by simp)] at KI
    clear hp KS KO GR GT GL GM
    go_wp2_with fail
    ((with_reducible refine (KI.out _ B).mono ?_))
    rintro e w1 ⟨rfl, hB⟩
    replace B := B.next hB; replace X := X.next hB; replace Y := Y.next hB; replace V := V.next hB; clear hB Xz X0 X1 X2 X3 Yz Y0 Y1 Y2 Y3 Vz V0 V1 V2 V3; have Xz := X.lt; have X0 := X.c0; have X1 := X.c1; have X2 := X.c2; have X3 := X.c3; have Yz := Y.lt; have Y0 := Y.c0; have Y1 := Y.c1; have Y2 := Y.c2; have Y3 := Y.c3; have Vz := V.lt; have V0 := V.c0; have V1 := V.c1; have V2 := V.c2; have V3 := V.c3
    go_wp2_with fail
    ((with_reducible refine (KP.out _ B).mono ?_))
    rintro e w2 ⟨rfl, hB⟩
    replace B := B.next hB; replace X := X.next hB; replace Y := Y.next hB; replace V := V.next hB; clear hB Xz X0 X1 X2 X3 Yz Y0 Y1 Y2 Y3 Vz V0 V1 V2 V3; have Xz := X.lt; have X0 := X.c0; have X1 := X.c1; have X2 := X.c2; have X3 := X.c3; have Yz := Y.lt; have Y0 := Y.c0; have Y1 := Y.c1; have Y2 := Y.c2; have Y3 := Y.c3; have Vz := V.lt; have V0 := V.c0; have V1 := V.c1; have V2 := V.c2; have V3 := V.c3
    go_wp2_with fail
    ((with_reducible refine (KA.out _).mono ?_))
    rintro e w3 ⟨rfl, hB⟩
    replace B := B.next hB
    go_wp2
    go_ret
    exact ⟨rfl, B⟩
  cases hy : scrMay A L S M
  · rw [hp, hy] at KI
    rw [hp] at KP
    rw [hy] at KS
    rw [refA_no (c := false) (by simp)] at KI
    clear hp hy KO GR GT GL GM
    go_wp2_with fail
    ((with_reducible refine (KI.out _ B).mono ?_))
    rintro e w1 ⟨rfl, hB⟩
    replace B := B.next hB; replace X := X.next hB; replace Y := Y.next hB; replace V := V.next hB; clear hB Xz X0 X1 X2 X3 Yz Y0 Y1 Y2 Y3 Vz V0 V1 V2 V3; have Xz := X.lt; have X0 := X.c0; have X1 := X.c1; have X2 := X.c2; have X3 := X.c3; have Yz := Y.lt; have Y0 := Y.c0; have Y1 := Y.c1; have Y2 := Y.c2; have Y3 := Y.c3; have Vz := V.lt; have V0 := V.c0; have V1 := V.c1; have V2 := V.c2; have V3 := V.c3
    go_wp2_with fail
    ((with_reducible refine (KP.out _ B).mono ?_))
    rintro e w2 ⟨rfl, hB⟩
    replace B := B.next hB; replace X := X.next hB; replace Y := Y.next hB; replace V := V.next hB; clear hB Xz X0 X1 X2 X3 Yz Y0 Y1 Y2 Y3 Vz V0 V1 V2 V3; have Xz := X.lt; have X0 := X.c0; have X1 := X.c1; have X2 := X.c2; have X3 := X.c3; have Yz := Y.lt; have Y0 := Y.c0; have Y1 := Y.c1; have Y2 := Y.c2; have Y3 := Y.c3; have Vz := V.lt; have V0 := V.c0; have V1 := V.c1; have V2 := V.c2; have V3 := V.c3
    go_wp2_with fail
    ((with_reducible refine (KS.out _ B).mono ?_))
    rintro e w3 ⟨rfl, hB⟩
    replace B := B.next hB; replace X := X.next hB; replace Y := Y.next hB; replace V := V.next hB; clear hB Xz X0 X1 X2 X3 Yz Y0 Y1 Y2 Y3 Vz V0 V1 V2 V3; have Xz := X.lt; have X0 := X.c0; have X1 := X.c1; have X2 := X.c2; have X3 := X.c3; have Yz := Y.lt; have Y0 := Y.c0; have Y1 := Y.c1; have Y2 := Y.c2; have Y3 := Y.c3; have Vz := V.lt; have V0 := V.c0; have V1 := V.c1; have V2 := V.c2; have V3 := V.c3
    go_wp2_with fail
    ((with_reducible refine (KA.out _).mono ?_))
    rintro e w4 ⟨rfl, hB⟩
    replace B := B.next hB
    go_wp2
    go_ret
    exact ⟨rfl, B⟩
  cases hz : scrMay A' L' S' M'
  · rw [hp, hy, hz] at KI
    rw [hp] at KP
    rw [hy] at KS
    rw [hz] at KO
    rw [refA_no (c := false) (by simp)] at KI
    clear hp hy hz GR GT GL GM
    go_wp2_with fail
    ((with_reducible refine (KI.out _ B).mono ?_))
    rintro e w1 ⟨rfl, hB⟩
    replace B := B.next hB; replace X := X.next hB; replace Y := Y.next hB; replace V := V.next hB; clear hB Xz X0 X1 X2 X3 Yz Y0 Y1 Y2 Y3 Vz V0 V1 V2 V3; have Xz := X.lt; have X0 := X.c0; have X1 := X.c1; have X2 := X.c2; have X3 := X.c3; have Yz := Y.lt; have Y0 := Y.c0; have Y1 := Y.c1; have Y2 := Y.c2; have Y3 := Y.c3; have Vz := V.lt; have V0 := V.c0; have V1 := V.c1; have V2 := V.c2; have V3 := V.c3
    go_wp2_with fail
    ((with_reducible refine (KP.out _ B).mono ?_))
    rintro e w2 ⟨rfl, hB⟩
    replace B := B.next hB; replace X := X.next hB; replace Y := Y.next hB; replace V := V.next hB; clear hB Xz X0 X1 X2 X3 Yz Y0 Y1 Y2 Y3 Vz V0 V1 V2 V3; have Xz := X.lt; have X0 := X.c0; have X1 := X.c1; have X2 := X.c2; have X3 := X.c3; have Yz := Y.lt; have Y0 := Y.c0; have Y1 := Y.c1; have Y2 := Y.c2; have Y3 := Y.c3; have Vz := V.lt; have V0 := V.c0; have V1 := V.c1; have V2 := V.c2; have V3 := V.c3
    go_wp2_with fail
    ((with_reducible refine (KS.out _ B).mono ?_))
    rintro e w3 ⟨rfl, hB⟩
    replace B := B.next hB; replace X := X.next hB; replace Y := Y.next hB; replace V := V.next hB; clear hB Xz X0 X1 X2 X3 Yz Y0 Y1 Y2 Y3 Vz V0 V1 V2 V3; have Xz := X.lt; have X0 := X.c0; have X1 := X.c1; have X2 := X.c2; have X3 := X.c3; have Yz := Y.lt; have Y0 := Y.c0; have Y1 := Y.c1; have Y2 := Y.c2; have Y3 := Y.c3; have Vz := V.lt; have V0 := V.c0; have V1 := V.c1; have V2 := V.c2; have V3 := V.c3
    go_wp2_with fail
    ((with_reducible refine (KO.out _ B).mono ?_))
    rintro e w4 ⟨rfl, hB⟩
    replace B := B.next hB; replace X := X.next hB; replace Y := Y.next hB; replace V := V.next hB; clear hB Xz X0 X1 X2 X3 Yz Y0 Y1 Y2 Y3 Vz V0 V1 V2 V3; have Xz := X.lt; have X0 := X.c0; have X1 := X.c1; have X2 := X.c2; have X3 := X.c3; have Yz := Y.lt; have Y0 := Y.c0; have Y1 := Y.c1; have Y2 := Y.c2; have Y3 := Y.c3; have Vz := V.lt; have V0 := V.c0; have V1 := V.c1; have V2 := V.c2; have V3 := V.c3
    go_wp2_with fail
    ((with_reducible refine (KA.out _).mono ?_))
    rintro e w5 ⟨rfl, hB⟩
    replace B := B.next hB
    go_wp2
    go_ret
    exact ⟨rfl, B⟩
  rw [hp, hy, hz] at KI
  rw [hp] at KP
  rw [hy] at KS
  rw [hz] at KO
  obtain ⟨ya, yb, yc, yd, _⟩ := scrMay_iff hy
  obtain ⟨_, xb, xc, xd, _⟩ := scrMay_iff hz
  have KB : Hid (∀ wr, Below w.heap.size w wr → Calls Try.prog 18 #[polV p q (.slice a1 m1 c1) (.slice a2 m2 c2), scrV A (.slice a3 m3 c3) S M, scrV A' (.slice a4 m4 c4) S' M'] wr fun e w' => e = .returned (.bool (eqL L L' && (agP p q A A' && (agS SA S S' && agS RA M M')))) ∧ Below wr.heap.size wr w') := fun wr h => ralikes_ct p q _ _ RA SA A S M _ L A' S' M' _ L' wr (GR.out wr h) (GT.out wr h) (GL.out wr h) (GM.out wr h) yb ya yc yd xb
  obtain ⟨r, hr⟩ : ∃ r, (eqL L L' && (agP p q A A' && (agS SA S S' && agS RA M M'))) = r := ⟨_, rfl⟩
  rw [refA_no (c := r) (by simpa using hr)] at KI
  rw [hr] at KB
  unfold polV scrV at KB
  cases r
  · clear hp hy hz GR GT GL GM hr
    go_wp2_with fail
    ((with_reducible refine (KI.out _ B).mono ?_))
    rintro e w1 ⟨rfl, hB⟩
    replace B := B.next hB; replace X := X.next hB; replace Y := Y.next hB; replace V := V.next hB; clear hB Xz X0 X1 X2 X3 Yz Y0 Y1 Y2 Y3 Vz V0 V1 V2 V3; have Xz := X.lt; have X0 := X.c0; have X1 := X.c1; have X2 := X.c2; have X3 := X.c3; have Yz := Y.lt; have Y0 := Y.c0; have Y1 := Y.c1; have Y2 := Y.c2; have Y3 := Y.c3; have Vz := V.lt; have V0 := V.c0; have V1 := V.c1; have V2 := V.c2; have V3 := V.c3
    go_wp2_with fail
    ((with_reducible refine (KP.out _ B).mono ?_))
    rintro e w2 ⟨rfl, hB⟩
    replace B := B.next hB; replace X := X.next hB; replace Y := Y.next hB; replace V := V.next hB; clear hB Xz X0 X1 X2 X3 Yz Y0 Y1 Y2 Y3 Vz V0 V1 V2 V3; have Xz := X.lt; have X0 := X.c0; have X1 := X.c1; have X2 := X.c2; have X3 := X.c3; have Yz := Y.lt; have Y0 := Y.c0; have Y1 := Y.c1; have Y2 := Y.c2; have Y3 := Y.c3; have Vz := V.lt; have V0 := V.c0; have V1 := V.c1; have V2 := V.c2; have V3 := V.c3
    go_wp2_with fail
    ((with_reducible refine (KS.out _ B).mono ?_))
    rintro e w3 ⟨rfl, hB⟩
    replace B := B.next hB; replace X := X.next hB; replace Y := Y.next hB; replace V := V.next hB; clear hB Xz X0 X1 X2 X3 Yz Y0 Y1 Y2 Y3 Vz V0 V1 V2 V3; have Xz := X.lt; have X0 := X.c0; have X1 := X.c1; have X2 := X.c2; have X3 := X.c3; have Yz := Y.lt; have Y0 := Y.c0; have Y1 := Y.c1; have Y2 := Y.c2; have Y3 := Y.c3; have Vz := V.lt; have V0 := V.c0; have V1 := V.c1; have V2 := V.c2; have V3 := V.c3
    go_wp2_with fail
    ((with_reducible refine (KO.out _ B).mono ?_))
    rintro e w4 ⟨rfl, hB⟩
    replace B := B.next hB; replace X := X.next hB; replace Y := Y.next hB; replace V := V.next hB; clear hB Xz X0 X1 X2 X3 Yz Y0 Y1 Y2 Y3 Vz V0 V1 V2 V3; have Xz := X.lt; have X0 := X.c0; have X1 := X.c1; have X2 := X.c2; have X3 := X.c3; have Yz := Y.lt; have Y0 := Y.c0; have Y1 := Y.c1; have Y2 := Y.c2; have Y3 := Y.c3; have Vz := V.lt; have V0 := V.c0; have V1 := V.c1; have V2 := V.c2; have V3 := V.c3
    go_wp2_with fail
    ((with_reducible refine (KB.out _ B).mono ?_))
    rintro e w5 ⟨rfl, hB⟩
    replace B := B.next hB; replace X := X.next hB; replace Y := Y.next hB; replace V := V.next hB; clear hB Xz X0 X1 X2 X3 Yz Y0 Y1 Y2 Y3 Vz V0 V1 V2 V3; have Xz := X.lt; have X0 := X.c0; have X1 := X.c1; have X2 := X.c2; have X3 := X.c3; have Yz := Y.lt; have Y0 := Y.c0; have Y1 := Y.c1; have Y2 := Y.c2; have Y3 := Y.c3; have Vz := V.lt; have V0 := V.c0; have V1 := V.c1; have V2 := V.c2; have V3 := V.c3
    go_wp2_with fail
    ((with_reducible refine (KA.out _).mono ?_))
    rintro e w6 ⟨rfl, hB⟩
    replace B := B.next hB
    go_wp2
    go_ret
    exact ⟨rfl, B⟩
  simp only [Bool.and_eq_true] at hr
  obtain ⟨_, r2, r3, r4⟩ := hr
  have Hag := Lib.hid ((agree_iff _ _ _).1 r2)
  have E1 := Lib.hid (agS_cells 2048 r4)
  have E2 := Lib.hid (agS_cells 8192 r3)
  have KM := Lib.hid (fun wr (h : Below w.heap.size w wr) => sram_yes p q _ _ RA SA A S M _ L wr (GR.out wr h) (GT.out wr h) (GL.out wr h) hp hy Z.out.1 Z.out.2.1 Z.out.2.2.1 yd)
  have KN := Lib.hid (fun wr (h : Below w.heap.size w wr) => sram_yes p q _ _ RA SA A' S' M' _ L' wr (GR.out wr h) (GT.out wr h) (GM.out wr h) hp hz Z.out.2.2.2.1 Z.out.2.2.2.2.1 Z.out.2.2.2.2.2 xd)
  have KV := Lib.hid (fun wr (h : Below w.heap.size w wr) => ssave_yes p q _ _ RA SA A S M _ L wr (GR.out wr h) (GT.out wr h) (GL.out wr h) hp hy Z.out.1 Z.out.2.1 Z.out.2.2.1 yc)
  have KW := Lib.hid (fun wr (h : Below w.heap.size w wr) => ssave_yes p q _ _ RA SA A' S' M' _ L' wr (GR.out wr h) (GT.out wr h) (GM.out wr h) hp hz Z.out.2.2.2.1 Z.out.2.2.2.2.1 Z.out.2.2.2.2.2 xc)
  unfold polV scrV at KM KN KV KW
  have KPa : Hid (∀ f p wr, Calls Try.prog 20 #[scrV A (.slice a3 m3 c3) S M, .int .i64 f, .int .i64 p] wr fun e w' => e = .returned (.int .u8 (padS A f p)) ∧ Below wr.heap.size wr w') := fun f p wr => pad_ct A S M a3 _ c3 f p wr Z.out.1
  have KPb : Hid (∀ f p wr, Calls Try.prog 20 #[scrV A' (.slice a4 m4 c4) S' M', .int .i64 f, .int .i64 p] wr fun e w' => e = .returned (.int .u8 (padS A' f p)) ∧ Below wr.heap.size wr w') := fun f p wr => pad_ct A' S' M' a4 _ c4 f p wr Z.out.2.2.2.1
  unfold scrV at KPa KPb
  obtain ⟨f, hf⟩ : ∃ f, A.size / 2 = f := ⟨_, rfl⟩
  have HF : Hid (A.size = 2 * f) := by show A.size = 2 * f; omega
  have f6 : f ≤ 600 := by omega
  have e1 : (A.size : Int) / 2 = (f : Int) := by omega
  clear hp hy hz GR GT GL GM r2 r3 r4 ya yb yc yd xb xc xd hf Z
  go_wp2_with fail
  ((with_reducible refine (KI.out _ B).mono ?_))
  rintro e w1 ⟨rfl, hB⟩
  replace B := B.next hB; replace X := X.next hB; replace Y := Y.next hB; replace V := V.next hB; clear hB Xz X0 X1 X2 X3 Yz Y0 Y1 Y2 Y3 Vz V0 V1 V2 V3; have Xz := X.lt; have X0 := X.c0; have X1 := X.c1; have X2 := X.c2; have X3 := X.c3; have Yz := Y.lt; have Y0 := Y.c0; have Y1 := Y.c1; have Y2 := Y.c2; have Y3 := Y.c3; have Vz := V.lt; have V0 := V.c0; have V1 := V.c1; have V2 := V.c2; have V3 := V.c3
  go_wp2_with fail
  ((with_reducible refine (KP.out _ B).mono ?_))
  rintro e w2 ⟨rfl, hB⟩
  replace B := B.next hB; replace X := X.next hB; replace Y := Y.next hB; replace V := V.next hB; clear hB Xz X0 X1 X2 X3 Yz Y0 Y1 Y2 Y3 Vz V0 V1 V2 V3; have Xz := X.lt; have X0 := X.c0; have X1 := X.c1; have X2 := X.c2; have X3 := X.c3; have Yz := Y.lt; have Y0 := Y.c0; have Y1 := Y.c1; have Y2 := Y.c2; have Y3 := Y.c3; have Vz := V.lt; have V0 := V.c0; have V1 := V.c1; have V2 := V.c2; have V3 := V.c3
  go_wp2_with fail
  ((with_reducible refine (KS.out _ B).mono ?_))
  rintro e w3 ⟨rfl, hB⟩
  replace B := B.next hB; replace X := X.next hB; replace Y := Y.next hB; replace V := V.next hB; clear hB Xz X0 X1 X2 X3 Yz Y0 Y1 Y2 Y3 Vz V0 V1 V2 V3; have Xz := X.lt; have X0 := X.c0; have X1 := X.c1; have X2 := X.c2; have X3 := X.c3; have Yz := Y.lt; have Y0 := Y.c0; have Y1 := Y.c1; have Y2 := Y.c2; have Y3 := Y.c3; have Vz := V.lt; have V0 := V.c0; have V1 := V.c1; have V2 := V.c2; have V3 := V.c3
  go_wp2_with fail
  ((with_reducible refine (KO.out _ B).mono ?_))
  rintro e w4 ⟨rfl, hB⟩
  replace B := B.next hB; replace X := X.next hB; replace Y := Y.next hB; replace V := V.next hB; clear hB Xz X0 X1 X2 X3 Yz Y0 Y1 Y2 Y3 Vz V0 V1 V2 V3; have Xz := X.lt; have X0 := X.c0; have X1 := X.c1; have X2 := X.c2; have X3 := X.c3; have Yz := Y.lt; have Y0 := Y.c0; have Y1 := Y.c1; have Y2 := Y.c2; have Y3 := Y.c3; have Vz := V.lt; have V0 := V.c0; have V1 := V.c1; have V2 := V.c2; have V3 := V.c3
  go_wp2_with fail
  ((with_reducible refine (KB.out _ B).mono ?_))
  rintro e w5 ⟨rfl, hB⟩
  replace B := B.next hB; replace X := X.next hB; replace Y := Y.next hB; replace V := V.next hB; clear hB Xz X0 X1 X2 X3 Yz Y0 Y1 Y2 Y3 Vz V0 V1 V2 V3; have Xz := X.lt; have X0 := X.c0; have X1 := X.c1; have X2 := X.c2; have X3 := X.c3; have Yz := Y.lt; have Y0 := Y.c0; have Y1 := Y.c1; have Y2 := Y.c2; have Y3 := Y.c3; have Vz := V.lt; have V0 := V.c0; have V1 := V.c1; have V2 := V.c2; have V3 := V.c3
  clear KI KP KS KO KB
  go_wp2_with fail
  ((with_reducible refine (KM.out _ B).mono ?_))
  rintro e w6 ⟨v1, rfl, hv, hB⟩
  have Hv1 : Hid (∀ wr, Below w6.heap.size w6 wr → Rd wr v1 (mkL 2048 M RA)) := fun wr h => hv.below h
  clear hv
  have D0 := Below.refl w6.heap.size w6
  replace B := B.next hB; replace X := X.next hB; replace Y := Y.next hB; replace V := V.next hB; clear hB Xz X0 X1 X2 X3 Yz Y0 Y1 Y2 Y3 Vz V0 V1 V2 V3; have Xz := X.lt; have X0 := X.c0; have X1 := X.c1; have X2 := X.c2; have X3 := X.c3; have Yz := Y.lt; have Y0 := Y.c0; have Y1 := Y.c1; have Y2 := Y.c2; have Y3 := Y.c3; have Vz := V.lt; have V0 := V.c0; have V1 := V.c1; have V2 := V.c2; have V3 := V.c3
  go_wp2_with fail
  ((with_reducible refine (KN.out _ B).mono ?_))
  rintro e w7 ⟨v2, rfl, hv, hB⟩
  have Hv2 : Hid (∀ wr, Below w7.heap.size w7 wr → Rd wr v2 (mkL 2048 M' RA)) := fun wr h => hv.below h
  clear hv
  replace D0 := D0.next hB
  have D1 := Below.refl w7.heap.size w7
  replace B := B.next hB; replace X := X.next hB; replace Y := Y.next hB; replace V := V.next hB; clear hB Xz X0 X1 X2 X3 Yz Y0 Y1 Y2 Y3 Vz V0 V1 V2 V3; have Xz := X.lt; have X0 := X.c0; have X1 := X.c1; have X2 := X.c2; have X3 := X.c3; have Yz := Y.lt; have Y0 := Y.c0; have Y1 := Y.c1; have Y2 := Y.c2; have Y3 := Y.c3; have Vz := V.lt; have V0 := V.c0; have V1 := V.c1; have V2 := V.c2; have V3 := V.c3
  go_wp2_with fail
  ((with_reducible refine (KV.out _ B).mono ?_))
  rintro e w8 ⟨v3, rfl, hv, hB⟩
  have Hv3 : Hid (∀ wr, Below w8.heap.size w8 wr → Rd wr v3 (mkL 8192 S SA)) := fun wr h => hv.below h
  clear hv
  replace D0 := D0.next hB
  replace D1 := D1.next hB
  have D2 := Below.refl w8.heap.size w8
  replace B := B.next hB; replace X := X.next hB; replace Y := Y.next hB; replace V := V.next hB; clear hB Xz X0 X1 X2 X3 Yz Y0 Y1 Y2 Y3 Vz V0 V1 V2 V3; have Xz := X.lt; have X0 := X.c0; have X1 := X.c1; have X2 := X.c2; have X3 := X.c3; have Yz := Y.lt; have Y0 := Y.c0; have Y1 := Y.c1; have Y2 := Y.c2; have Y3 := Y.c3; have Vz := V.lt; have V0 := V.c0; have V1 := V.c1; have V2 := V.c2; have V3 := V.c3
  go_wp2_with fail
  ((with_reducible refine (KW.out _ B).mono ?_))
  rintro e w9 ⟨v4, rfl, hv, hB⟩
  have Hv4 : Hid (∀ wr, Below w9.heap.size w9 wr → Rd wr v4 (mkL 8192 S' SA)) := fun wr h => hv.below h
  clear hv
  replace D0 := D0.next hB
  replace D1 := D1.next hB
  replace D2 := D2.next hB
  have D3 := Below.refl w9.heap.size w9
  replace B := B.next hB; replace X := X.next hB; replace Y := Y.next hB; replace V := V.next hB; clear hB Xz X0 X1 X2 X3 Yz Y0 Y1 Y2 Y3 Vz V0 V1 V2 V3; have Xz := X.lt; have X0 := X.c0; have X1 := X.c1; have X2 := X.c2; have X3 := X.c3; have Yz := Y.lt; have Y0 := Y.c0; have Y1 := Y.c1; have Y2 := Y.c2; have Y3 := Y.c3; have Vz := V.lt; have V0 := V.c0; have V1 := V.c1; have V2 := V.c2; have V3 := V.c3
  have KZ := ralikeL_ct v1 v2 _ _ w9 (Hv1.out _ D0) (Hv2.out _ D1)
  rw [E1.out] at KZ
  go_wp2_with fail
  ((with_reducible refine KZ.mono ?_))
  rintro e w10 ⟨rfl, hB⟩
  replace D2 := D2.next hB
  replace D3 := D3.next hB
  clear KZ D0 D1
  replace B := B.next hB; replace X := X.next hB; replace Y := Y.next hB; replace V := V.next hB; clear hB Xz X0 X1 X2 X3 Yz Y0 Y1 Y2 Y3 Vz V0 V1 V2 V3; have Xz := X.lt; have X0 := X.c0; have X1 := X.c1; have X2 := X.c2; have X3 := X.c3; have Yz := Y.lt; have Y0 := Y.c0; have Y1 := Y.c1; have Y2 := Y.c2; have Y3 := Y.c3; have Vz := V.lt; have V0 := V.c0; have V1 := V.c1; have V2 := V.c2; have V3 := V.c3
  have KZ := ralikeL_ct v3 v4 _ _ w10 (Hv3.out _ D2) (Hv4.out _ D3)
  rw [E2.out] at KZ
  go_wp2_with fail
  ((with_reducible refine KZ.mono ?_))
  rintro e w11 ⟨rfl, hB⟩
  clear KZ D2 D3 Hv1 Hv2 Hv3 Hv4 E1 E2 KM KN KV KW
  replace B := B.next hB; replace X := X.next hB; replace Y := Y.next hB; replace V := V.next hB; clear hB Xz X0 X1 X2 X3 Yz Y0 Y1 Y2 Y3 Vz V0 V1 V2 V3; have Xz := X.lt; have X0 := X.c0; have X1 := X.c1; have X2 := X.c2; have X3 := X.c3; have Yz := Y.lt; have Y0 := Y.c0; have Y1 := Y.c1; have Y2 := Y.c2; have Y3 := Y.c3; have Vz := V.lt; have V0 := V.c0; have V1 := V.c1; have V2 := V.c2; have V3 := V.c3
  go_wp2
  go_loopw [16] (fun i wr => ∃ (k : Nat), k ≤ f ∧ i = .int .i64 k ∧ Below w11.heap.size w11 wr) (fun i _ => f - (intOf i).toNat)
  case atStart => exact ⟨0, Nat.zero_le _, rfl, Below.refl _ _⟩
  case round =>
    obtain ⟨k, hk, rfl, D⟩ := hrel
    replace X := X.next D
    replace Y := Y.next D
    replace V := V.next D
    replace B := B.next D
    clear Xz X0 X1 X2 X3 Yz Y0 Y1 Y2 Y3 Vz V0 V1 V2 V3
    (skip); have Xz := X.lt; have X0 := X.c0; have X1 := X.c1; have X2 := X.c2; have X3 := X.c3; have Yz := Y.lt; have Y0 := Y.c0; have Y1 := Y.c1; have Y2 := Y.c2; have Y3 := Y.c3; have Vz := V.lt; have V0 := V.c0; have V1 := V.c1; have V2 := V.c2; have V3 := V.c3
    by_cases hlt : k < f
    · have l1 : k < A.size / 2 := by rw [HF.out]; omega
      have l2 : k < A'.size / 2 := by rw [← Hag.out.1, HF.out]; omega
      go_wp2
      obtain ⟨wo, rfl⟩ : ∃ wo : World, wo = wr := ⟨_, rfl⟩
      go_loopw [17] (fun i wr => ∃ (j : Nat), j ≤ 2 ∧ i = .int .i64 j ∧ Below wo.heap.size wo wr) (fun i _ => 2 - (intOf i).toNat)
      case atStart => exact ⟨0, by omega, rfl, Below.refl _ _⟩
      case round =>
        obtain ⟨j, hj, rfl, D2⟩ := hrel
        have D3 := D.next D2
        replace X := X.next D2
        replace Y := Y.next D2
        replace V := V.next D2
        clear Xz X0 X1 X2 X3 Yz Y0 Y1 Y2 Y3 Vz V0 V1 V2 V3
        (skip); have Xz := X.lt; have X0 := X.c0; have X1 := X.c1; have X2 := X.c2; have X3 := X.c3; have Yz := Y.lt; have Y0 := Y.c0; have Y1 := Y.c1; have Y2 := Y.c2; have Y3 := Y.c3; have Vz := V.lt; have V0 := V.c0; have V1 := V.c1; have V2 := V.c2; have V3 := V.c3
        by_cases hj2 : j < 2
        · by_cases j0 : j = 0
          · subst j0
            cases p
            · have hpA := fun wr => KPa.out (k : Int) ((0 : Nat) : Int) wr
              have hpB := fun wr => KPb.out (k : Int) ((0 : Nat) : Int) wr
              rw [padS_byte A k 0 l1 (by omega)] at hpA
              rw [padS_byte A' k 0 l2 (by omega)] at hpB
              have hxy : byteAt A (2 * k + 0) = byteAt A' (2 * k + 0) := by
                rcases Hag.out.2 (2 * k + 0) (by rw [HF.out]; omega) with e | e
                · exact e
                · rw [if_pos (by omega)] at e; cases e
              rw [hxy] at hpA
              generalize byteAt A' (2 * k + 0) = x at hpA hpB
              clear hxy
              have qX0 := cell_regrown X0
              have qX1 := cell_regrown X1
              have qX2 := cell_regrown X2
              have qX3 := cell_regrown X3
              have qY0 := cell_regrown Y0
              have qY1 := cell_regrown Y1
              have qY2 := cell_regrown Y2
              have qY3 := cell_regrown Y3
              have qV0 := cell_regrown V0
              have qV1 := cell_regrown V1
              have qV2 := cell_regrown V2
              have qV3 := cell_regrown V3
              clear KPa KPb Hag e1 l1 l2
              go_wp2_with fail
              (refine wp_region_quiet_below (by kernel_rfl) (by kernel_rfl) ?_); (repeat (go_big_quiet_step ((go_at_call 20; first | (with_reducible exact Calls.regrown_of (hpA _)) | (with_reducible exact Calls.regrown_of (hpB _)))))); (refine wpQuiet_nil ?_); intro _ hw'; obtain ⟨⟨dq, osq⟩, hw''⟩ := hw'; (subst hw''); have hq := below_regrown wr dq osq; generalize Go.Sort.grow (redrawn wr dq) osq = wq at hq ⊢
              have D4 := D2.next hq
              go_wp2
              go_roundw
              case rel => exact ⟨0 + 1, by omega, by go_num, D4⟩
              case measure => simp [intOf]
            · have qX0 := cell_regrown X0
              have qX1 := cell_regrown X1
              have qX2 := cell_regrown X2
              have qX3 := cell_regrown X3
              have qY0 := cell_regrown Y0
              have qY1 := cell_regrown Y1
              have qY2 := cell_regrown Y2
              have qY3 := cell_regrown Y3
              have qV0 := cell_regrown V0
              have qV1 := cell_regrown V1
              have qV2 := cell_regrown V2
              have qV3 := cell_regrown V3
              clear KPa KPb Hag e1 l1 l2
              go_wp2_with fail
              (refine wp_region_quiet_below (by kernel_rfl) (by kernel_rfl) ?_); (repeat (go_big_quiet_step ((go_at_call 20; fail)))); (refine wpQuiet_nil ?_); intro _ hw'; obtain ⟨⟨dq, osq⟩, hw''⟩ := hw'; (subst hw''); have hq := below_regrown wr dq osq; generalize Go.Sort.grow (redrawn wr dq) osq = wq at hq ⊢
              have D4 := D2.next hq
              go_wp2
              go_roundw
              case rel => exact ⟨0 + 1, by omega, by go_num, D4⟩
              case measure => simp [intOf]
          · have j1 : j = 1 := by omega
            subst j1
            cases q
            · have hpA := fun wr => KPa.out (k : Int) ((1 : Nat) : Int) wr
              have hpB := fun wr => KPb.out (k : Int) ((1 : Nat) : Int) wr
              rw [padS_byte A k 1 l1 (by omega)] at hpA
              rw [padS_byte A' k 1 l2 (by omega)] at hpB
              have hxy : byteAt A (2 * k + 1) = byteAt A' (2 * k + 1) := by
                rcases Hag.out.2 (2 * k + 1) (by rw [HF.out]; omega) with e | e
                · exact e
                · rw [if_neg (by omega)] at e; cases e
              rw [hxy] at hpA
              generalize byteAt A' (2 * k + 1) = x at hpA hpB
              clear hxy
              have qX0 := cell_regrown X0
              have qX1 := cell_regrown X1
              have qX2 := cell_regrown X2
              have qX3 := cell_regrown X3
              have qY0 := cell_regrown Y0
              have qY1 := cell_regrown Y1
              have qY2 := cell_regrown Y2
              have qY3 := cell_regrown Y3
              have qV0 := cell_regrown V0
              have qV1 := cell_regrown V1
              have qV2 := cell_regrown V2
              have qV3 := cell_regrown V3
              clear KPa KPb Hag e1 l1 l2
              go_wp2_with fail
              (refine wp_region_quiet_below (by kernel_rfl) (by kernel_rfl) ?_); (repeat (go_big_quiet_step ((go_at_call 20; first | (with_reducible exact Calls.regrown_of (hpA _)) | (with_reducible exact Calls.regrown_of (hpB _)))))); (refine wpQuiet_nil ?_); intro _ hw'; obtain ⟨⟨dq, osq⟩, hw''⟩ := hw'; (subst hw''); have hq := below_regrown wr dq osq; generalize Go.Sort.grow (redrawn wr dq) osq = wq at hq ⊢
              have D4 := D2.next hq
              go_wp2
              go_roundw
              case rel => exact ⟨1 + 1, by omega, by go_num, D4⟩
              case measure => simp [intOf]
            · have qX0 := cell_regrown X0
              have qX1 := cell_regrown X1
              have qX2 := cell_regrown X2
              have qX3 := cell_regrown X3
              have qY0 := cell_regrown Y0
              have qY1 := cell_regrown Y1
              have qY2 := cell_regrown Y2
              have qY3 := cell_regrown Y3
              have qV0 := cell_regrown V0
              have qV1 := cell_regrown V1
              have qV2 := cell_regrown V2
              have qV3 := cell_regrown V3
              clear KPa KPb Hag e1 l1 l2
              go_wp2_with fail
              (refine wp_region_quiet_below (by kernel_rfl) (by kernel_rfl) ?_); (repeat (go_big_quiet_step ((go_at_call 20; fail)))); (refine wpQuiet_nil ?_); intro _ hw'; obtain ⟨⟨dq, osq⟩, hw''⟩ := hw'; (subst hw''); have hq := below_regrown wr dq osq; generalize Go.Sort.grow (redrawn wr dq) osq = wq at hq ⊢
              have D4 := D2.next hq
              go_wp2
              go_roundw
              case rel => exact ⟨1 + 1, by omega, by go_num, D4⟩
              case measure => simp [intOf]
        · obtain rfl : j = 2 := by omega
          clear KPa KPb Hag l1 l2
          go_wp2
          go_roundw
          case rel => exact ⟨k + 1, by omega, by go_num, D3⟩
          case measure => simp [intOf]; omega
    · obtain rfl : k = f := by omega
      clear KPa KPb Hag D hlt
      go_wp2_with fail
      ((with_reducible refine (KA.out _).mono ?_))
      rintro e w20 ⟨rfl, hB⟩
      replace B := B.next hB
      go_wp2
      go_ret
      exact ⟨rfl, B⟩
end Go.Proofs.Ytjiilcnbajcdhaa
