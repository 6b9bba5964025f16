/-
  ScriptChange's walk. Over this seat's translation.
-/
import Derived.Test.YtjiilcnbajcdhaaLsc
import Derived.Test.YtjiilcnbajcdhaaSrh
import Derived.Test.YtjiilcnbajcdhaaChm
import Derived.BigRegion
import Derived.Laws.BytesArg
namespace Go.Proofs.Ytjiilcnbajcdhaa
open Go.RowKit

/-- Block R holds just these three cells. -/
structure B3 (w : World) (R T : Nat) (a b c : Value) : Prop where
  obj : w.heap[R]? = some (.cells #[a, b, c] T)
section
variable {w w' : World} {R T : Nat} {a b c : Value}
theorem B3.lt (h : B3 w R T a b c) : R < w.heap.size := (Array.getElem?_eq_some_iff.1 h.obj).1
theorem B3.c0 (h : B3 w R T a b c) : w.cell? ⟨R, 0, none⟩ = some a := by rw [Lib.cell_of_heap h.obj]; rfl
theorem B3.c1 (h : B3 w R T a b c) : w.cell? ⟨R, 1, none⟩ = some b := by rw [Lib.cell_of_heap h.obj]; rfl
theorem B3.c2 (h : B3 w R T a b c) : w.cell? ⟨R, 2, none⟩ = some c := by rw [Lib.cell_of_heap h.obj]; rfl
theorem B3.next (h : B3 w R T a b c) (hb : Below w.heap.size w w') : B3 w' R T a b c := ⟨(hb.block R h.lt).trans h.obj⟩
theorem B3.new2 (w : World) (o o' : Obj) (T : Nat) (a b c : Value) : B3 (((w.alloc o).alloc o').alloc (.cells #[a, b, c] T)) (w.heap.size + 1 + 1) T a b c := by
  have h := World.alloc_heap_new ((w.alloc o).alloc o') (.cells #[a, b, c] T)
  rw [show ((w.alloc o).alloc o').heap.size = w.heap.size + 1 + 1 by simp] at h
  exact ⟨h⟩
theorem B3.other (h : B3 w R T a b c) {Q : Nat} (hq : Q ≠ R) (i : Nat) (x : Value) : B3 (w.setCell ⟨Q, i, none⟩ x) R T a b c := ⟨by simp [World.setCell, Array.getElem?_modify, hq, h.obj]⟩
theorem B3.others (h : B3 w R T a b c) {Q : Nat} (hq : Q ≠ R) (x y z u : Value) : B3 ((((w.setCell ⟨Q, 0, none⟩ x).setCell ⟨Q, 1, none⟩ y).setCell ⟨Q, 2, none⟩ z).setCell ⟨Q, 3, none⟩ u) R T a b c := (((h.other hq 0 x).other hq 1 y).other hq 2 z).other hq 3 u
end
theorem scrMay_size {a a' s s' m m' : ByteArray} {l : List Int} (h1 : a'.size = a.size) (h2 : s'.size = s.size) (h3 : m'.size = m.size) : scrMay a' l s' m' = scrMay a l s m := by
  unfold scrMay sizesB
  rw [h1, h2, h3]
theorem alike_ch {p q : Bool} {ra sa : List (Int × Int)} {a a' s s' m m' : ByteArray} {l : List Int} (hp : polMay ra sa = true) (hy : scrMay a l s m = true) (h1 : a'.size = a.size) (h2 : s'.size = s.size) (h3 : m'.size = m.size) :
    scrAlike p q ra sa a s m l a' s' m' l = (agP p q a a' && (agS sa s s' && agS ra m m')) := by
  unfold scrAlike
  rw [scrMay_size h1 h2 h3, hp, hy, eqL_self]
  rfl
set_option maxRecDepth 100000 in
set_option maxHeartbeats 16000000 in
theorem change_walk (p q : Bool) (sv tv : Value) (ra sa : List (Int × Int)) (a s m : ByteArray) (rv : Value) (l : List Int) (wh att by_ : Int) (w : World) (hr : Rg w sv ra) (ht : Rg w tv sa) (hl : Ri w rv l)
    (ha : a.size ≤ maxLen) (hs : s.size ≤ maxLen) (hm : m.size ≤ maxLen) (w0 : 0 ≤ wh ∧ wh < 256) (w1 : 0 ≤ att ∧ att < 65536) (w2 : 0 ≤ by_ ∧ by_ < 256) :
    Calls Try.prog 6 #[polV p q sv tv, scrV a rv s m, .agg #[.int .u8 wh, .int .u16 att, .int .u8 by_]] w fun e w' => e = .returned (.bool true) ∧ Below w.heap.size w w' := by
  have K1 : Hid (∀ wr, Below w.heap.size w wr → Calls Try.prog 8 #[polV p q sv tv] wr fun e w' => e = .returned (polV p q (cut20 sv) (cut20 tv)) ∧ Below wr.heap.size wr w') := fun wr h => fewpol_ct p q sv tv ra sa wr (hr.below h) (ht.below h)
  have K2 : Hid (∀ wr, Below w.heap.size w wr → Calls Try.prog 9 #[scrV a rv s m] wr fun e w' => e = .returned (scrV (cutB 1201 a) (cut20 rv) (cutB 8193 s) (cutB 2049 m)) ∧ Below wr.heap.size wr w') := fun wr h => sfew_ct a s m rv l wr (hl.below h) ha hs hm
  have gR := rg_cut20 hr
  have gT := rg_cut20 ht
  have gL := ri_cut20 hl
  have zA := cutB_size 1201 a
  have zS := cutB_size 8193 s
  have zM := cutB_size 2049 m
  obtain ⟨a1, c1, rfl, _⟩ := hr
  obtain ⟨a2, c2, rfl, _⟩ := ht
  obtain ⟨a3, c3, rfl, _⟩ := hl
  simp only [cut20_slice] at K1 K2 gR gT gL
  clear ha hs hm
  generalize ra.take 20 = RA at *
  generalize sa.take 20 = SA at *
  generalize l.take 20 = L at *
  generalize cutB 1201 a = A at *
  generalize cutB 8193 s = S at *
  generalize cutB 2049 m = M at *
  generalize ra.length = n1 at *
  generalize sa.length = n2 at *
  generalize l.length = n3 at *
  generalize min n1 20 = m1 at *
  generalize min n2 20 = m2 at *
  generalize min n3 20 = m3 at *
  have zA' : A.size ≤ maxLen := Nat.le_trans zA (by decide)
  have zS' : S.size ≤ maxLen := Nat.le_trans zS (by decide)
  have zM' : M.size ≤ maxLen := Nat.le_trans zM (by decide)
  have KP : Hid (∀ wr, Below w.heap.size w wr → Calls Try.prog 12 #[polV p q (.slice a1 m1 c1) (.slice a2 m2 c2)] wr fun e w' => e = .returned (.bool (polMay RA SA)) ∧ Below wr.heap.size wr w') := fun wr h => rmayp_ct p q _ _ RA SA wr (gR.below h) (gT.below h)
  have KS : Hid (∀ wr, Below w.heap.size w wr → Calls Try.prog 13 #[scrV A (.slice a3 m3 c3) S M] wr fun e w' => e = .returned (.bool (scrMay A L S M)) ∧ Below wr.heap.size wr w') := fun wr h => rmays_ct A S M _ L wr (gL.below h) zA' zS' zM'
  have KA : Hid (∀ wr, Calls Try.prog 14 #[] wr fun e w' => e = .returned (.bool true) ∧ Below wr.heap.size wr w') := fun wr => sawake_ct wr
  have GR : Hid (∀ wr, Below w.heap.size w wr → Rg wr (.slice a1 m1 c1) RA) := fun wr h => gR.below h
  have GT : Hid (∀ wr, Below w.heap.size w wr → Rg wr (.slice a2 m2 c2) SA) := fun wr h => gT.below h
  have GL : Hid (∀ wr, Below w.heap.size w wr → Ri wr (.slice a3 m3 c3) L) := fun wr h => gL.below h
  have Z := Lib.hid (And.intro zA (And.intro zS zM))
  clear gR gT gL zA zS zM zA' zS' zM'
  obtain ⟨w00, w01⟩ := w0
  obtain ⟨w20, w21⟩ := w2
  obtain ⟨w10, w11⟩ := w1
  obtain ⟨k, rfl⟩ := Int.eq_ofNat_of_zero_le w10
  unfold polV at K1 KP ⊢
  unfold scrV at K2 KS ⊢
  go_enter Try.func6, Try.ntmps6
  go_upto_region 0 with fail
  go_cut [3, 4, 5, 6] (fun s3 s4 s5 s6 wx => s3 = .pointer (some ⟨w.heap.size, 0, none⟩) ∧ s4 = .pointer (some ⟨w.heap.size + 1, 0, none⟩) ∧ s5 = .pointer (some ⟨w.heap.size + 1 + 1, 0, none⟩) ∧ s6 = .bool false ∧ BX wx w.heap.size 25 (.bool p) (.bool q) (.slice a1 n1 c1) (.slice a2 n2 c2) ∧ BX wx (w.heap.size + 1) 28 (.string a) (.slice a3 n3 c3) (.string s) (.string m) ∧ B3 wx (w.heap.size + 1 + 1) 50 (.int .u8 wh) (.int .u16 (k : Int)) (.int .u8 by_) ∧ Below w.heap.size w wx)
  case first =>
    have X := fun o o' => ((BX.new w 25 (.bool p) (.bool q) (.slice a1 n1 c1) (.slice a2 n2 c2)).alloc o).alloc o'
    have Y := fun o o' => (BX.new1 w o 28 (.string a) (.slice a3 n3 c3) (.string s) (.string m)).alloc o'
    have V := fun o o' => B3.new2 w o o' 50 (.int .u8 wh) (.int .u16 (k : Int)) (.int .u8 by_)
    go_wp2_with fail
    go_meet
    exact ⟨rfl, rfl, rfl, rfl, X _ _, Y _ _, V _ _, (by repeat' (first | exact Below.refl _ _ | (refine Below.setCell ?_ (by first | (simp; done) | (simp; omega) | omega) _) | (refine Below.drew ?_) | (refine Below.drewN ?_ _) | (refine Below.alloc ?_ (by first | (simp; done) | (simp; omega) | omega) _)))⟩
  case rest =>
  obtain ⟨rfl, rfl, rfl, rfl, X, Y, V, B⟩ := hcut
  go_upto_region 1 with fail
  go_cut [] (fun wx => BX wx w.heap.size 25 (.bool p) (.bool q) (.slice a1 m1 c1) (.slice a2 m2 c2) ∧ BX wx (w.heap.size + 1) 28 (.string A) (.slice a3 m3 c3) (.string S) (.string M) ∧ B3 wx (w.heap.size + 1 + 1) 50 (.int .u8 wh) (.int .u16 (k : Int)) (.int .u8 by_) ∧ Below w.heap.size w wx)
  case first =>
    (skip); have Xz := X.lt; have X0 := X.c0; have X1 := X.c1; have X2 := X.c2; have X3 := X.c3; have Yz := Y.lt; have Y0 := Y.c0; have Y1 := Y.c1; have Y2 := Y.c2; have Y3 := Y.c3
    have qX0 := cell_regrown X0
    have qX1 := cell_regrown X1
    have qX2 := cell_regrown X2
    have qX3 := cell_regrown X3
    have qY0 := cell_regrown Y0
    have qY1 := cell_regrown Y1
    have qY2 := cell_regrown Y2
    have qY3 := cell_regrown Y3
    have f1 := fun d os => K1.out _ (B.next (below_regrown wc d os))
    have f2 := fun d os => K2.out _ (B.next (below_regrown wc d os))
    clear X0 X1 X2 X3 Y0 Y1 Y2 Y3
    (refine wp_region_tails_below 4 (by kernel_rfl) (by kernel_rfl) ?_); (simp only [List.take_succ_cons, List.take_zero, List.drop_succ_cons, List.drop_zero]); (repeat (go_big_quiet_step ((first | (go_at_call 8; (with_reducible exact Calls.regrown_of (f1 _ _))) | (go_at_call 9; (with_reducible exact Calls.regrown_of (f2 _ _))))))); (refine wpQuiet_nil ?_); intro _ hw'; obtain ⟨⟨dq, osq⟩, hw''⟩ := hw'; (subst hw''); have hq := below_regrown wc dq osq; skip; generalize Go.Sort.grow (redrawn wc dq) osq = wq at *
    have XQ := X.next hq
    have YQ := Y.next hq
    have VQ := V.next hq
    have fx := XQ.free
    have fy := YQ.free
    (skip); have XQz := XQ.lt; have XQ0 := XQ.c0; have XQ1 := XQ.c1; have XQ2 := XQ.c2; have XQ3 := XQ.c3; have YQz := YQ.lt; have YQ0 := YQ.c0; have YQ1 := YQ.c1; have YQ2 := YQ.c2; have YQ3 := YQ.c3
    go_wp2_with fail
    go_meet
    have h21 : w.heap.size + 1 ≠ w.heap.size := by omega
    have h31 : w.heap.size ≠ w.heap.size + 1 + 1 := by omega
    have h32 : w.heap.size + 1 ≠ w.heap.size + 1 + 1 := by omega
    exact ⟨(XQ.set _ _ _ _).others h21 _ _ _ _, (YQ.others h21.symm _ _ _ _).set _ _ _ _, (VQ.others h31 _ _ _ _).others h32 _ _ _ _, below_set4 (below_set4 (B.next hq) (Nat.le_refl _) _ _ _ _) (Nat.le_succ _) _ _ _ _⟩
  case rest =>
  clear X Y V B K1 K2
  obtain ⟨X, Y, V, B⟩ := hcut
  (skip); have Xz := X.lt; have X0 := X.c0; have X1 := X.c1; have X2 := X.c2; have X3 := X.c3; have Yz := Y.lt; have Y0 := Y.c0; have Y1 := Y.c1; have Y2 := Y.c2; have Y3 := Y.c3
  have Vz := V.lt
  have V0 := V.c0
  have V1 := V.c1
  have V2 := V.c2
  cases hp : polMay RA SA
  · rw [hp] at KP
    clear hp KS GR GT GL
    go_wp2_with fail
    ((with_reducible refine (KP.out _ B).mono ?_))
    rintro e w1 ⟨rfl, hB⟩
    replace V := V.next hB
    replace B := B.next hB; replace X := X.next hB; replace Y := Y.next hB; clear hB Xz X0 X1 X2 X3 Yz Y0 Y1 Y2 Y3; have Xz := X.lt; have X0 := X.c0; have X1 := X.c1; have X2 := X.c2; have X3 := X.c3; have Yz := Y.lt; have Y0 := Y.c0; have Y1 := Y.c1; have Y2 := Y.c2; have Y3 := Y.c3
    clear Vz V0 V1 V2
    have Vz := V.lt
    have V0 := V.c0
    have V1 := V.c1
    have V2 := V.c2
    go_wp2_with fail
    ((with_reducible refine (KA.out _).mono ?_))
    rintro e w2 ⟨rfl, hB⟩
    replace B := B.next hB
    go_wp2
    go_ret
    exact ⟨rfl, B⟩
  cases hy : scrMay A L S M
  · rw [hp] at KP
    rw [hy] at KS
    clear hp hy GR GT GL
    go_wp2_with fail
    ((with_reducible refine (KP.out _ B).mono ?_))
    rintro e w1 ⟨rfl, hB⟩
    replace V := V.next hB
    replace B := B.next hB; replace X := X.next hB; replace Y := Y.next hB; clear hB Xz X0 X1 X2 X3 Yz Y0 Y1 Y2 Y3; have Xz := X.lt; have X0 := X.c0; have X1 := X.c1; have X2 := X.c2; have X3 := X.c3; have Yz := Y.lt; have Y0 := Y.c0; have Y1 := Y.c1; have Y2 := Y.c2; have Y3 := Y.c3
    clear Vz V0 V1 V2
    have Vz := V.lt
    have V0 := V.c0
    have V1 := V.c1
    have V2 := V.c2
    go_wp2_with fail
    ((with_reducible refine (KS.out _ B).mono ?_))
    rintro e w2 ⟨rfl, hB⟩
    replace V := V.next hB
    replace B := B.next hB; replace X := X.next hB; replace Y := Y.next hB; clear hB Xz X0 X1 X2 X3 Yz Y0 Y1 Y2 Y3; have Xz := X.lt; have X0 := X.c0; have X1 := X.c1; have X2 := X.c2; have X3 := X.c3; have Yz := Y.lt; have Y0 := Y.c0; have Y1 := Y.c1; have Y2 := Y.c2; have Y3 := Y.c3
    clear Vz V0 V1 V2
    have Vz := V.lt
    have V0 := V.c0
    have V1 := V.c1
    have V2 := V.c2
    go_wp2_with fail
    ((with_reducible refine (KA.out _).mono ?_))
    rintro e w3 ⟨rfl, hB⟩
    replace B := B.next hB
    go_wp2
    go_ret
    exact ⟨rfl, B⟩
  rw [hp] at KP
  rw [hy] at KS
  go_wp2_with fail
  ((with_reducible refine (KP.out _ B).mono ?_))
  rintro e w1 ⟨rfl, hB⟩
  replace V := V.next hB
  replace B := B.next hB; replace X := X.next hB; replace Y := Y.next hB; clear hB Xz X0 X1 X2 X3 Yz Y0 Y1 Y2 Y3; have Xz := X.lt; have X0 := X.c0; have X1 := X.c1; have X2 := X.c2; have X3 := X.c3; have Yz := Y.lt; have Y0 := Y.c0; have Y1 := Y.c1; have Y2 := Y.c2; have Y3 := Y.c3
  clear Vz V0 V1 V2
  have Vz := V.lt
  have V0 := V.c0
  have V1 := V.c1
  have V2 := V.c2
  go_wp2_with fail
  ((with_reducible refine (KS.out _ B).mono ?_))
  rintro e w2 ⟨rfl, hB⟩
  replace V := V.next hB
  replace B := B.next hB; replace X := X.next hB; replace Y := Y.next hB; clear hB Xz X0 X1 X2 X3 Yz Y0 Y1 Y2 Y3; have Xz := X.lt; have X0 := X.c0; have X1 := X.c1; have X2 := X.c2; have X3 := X.c3; have Yz := Y.lt; have Y0 := Y.c0; have Y1 := Y.c1; have Y2 := Y.c2; have Y3 := Y.c3
  clear Vz V0 V1 V2
  have Vz := V.lt
  have V0 := V.c0
  have V1 := V.c1
  have V2 := V.c2
  clear KP KS
  have hcv : Hid (∀ (W : World) (g : Nat) (x : Int), W.cell? ⟨g, 0, none⟩ = some (.int .u8 x) → (convert 51 9 (.slice (some ⟨g, 0, none⟩) 1 1)).run Try.prog W = .ok (.string (strOfNums [x])) W) := fun W g x h =>
    run_convert_bytes_arg (P := Try.prog) W 51 5 Try.underlying51 Try.underlying5 g 0 1 1 [x] (by simp) (fun i hi => by
      obtain rfl : i = 0 := by omega
      simpa using h) 9 Try.underlying9
  have HPY := Lib.hid (And.intro hp hy)
  have KIr : Hid (∀ wr, Below w.heap.size w wr → Calls Try.prog 23 #[.slice a1 m1 c1, .int .i64 (k : Int)] wr fun e w' => e = .returned (.bool (inB RA k)) ∧ wr = w') := fun wr h => rin_ct _ _ RA wr (GR.out wr h)
  have KIs : Hid (∀ wr, Below w.heap.size w wr → Calls Try.prog 23 #[.slice a2 m2 c2, .int .i64 (k : Int)] wr fun e w' => e = .returned (.bool (inB SA k)) ∧ wr = w') := fun wr h => rin_ct _ _ SA wr (GT.out wr h)
  have KAl : Hid (∀ (A' S' M' : ByteArray) wr, Below w.heap.size w wr → A'.size = A.size → S'.size = S.size → M'.size = M.size → Calls Try.prog 17 #[.agg #[.bool p, .bool q, .slice a1 m1 c1, .slice a2 m2 c2], .agg #[.string A, .slice a3 m3 c3, .string S, .string M], .agg #[.string A', .slice a3 m3 c3, .string S', .string M']] wr fun e w' => e = .returned (.bool (agP p q A A' && (agS SA S S' && agS RA M M'))) ∧ Below wr.heap.size wr w') := fun A' S' M' wr h h1 h2 h3 => by
    have zA : A.size ≤ maxLen := Nat.le_trans Z.out.1 (by decide)
    have zS : S.size ≤ maxLen := Nat.le_trans Z.out.2.1 (by decide)
    have zM : M.size ≤ maxLen := Nat.le_trans Z.out.2.2 (by decide)
    have := salike_ct p q _ _ RA SA A S M _ L A' S' M' _ L wr (GR.out wr h) (GT.out wr h) (GL.out wr h) (GL.out wr h) zA zS zM (by rw [h1]; exact zA) (by rw [h2]; exact zS) (by rw [h3]; exact zM)
    rw [alike_ch HPY.out.1 HPY.out.2 h1 h2 h3] at this
    exact this
  have KSm : Hid (∀ (A' S' M' : ByteArray) wr, Below w.heap.size w wr → Calls Try.prog 21 #[.agg #[.string A, .slice a3 m3 c3, .string S, .string M], .agg #[.string A', .slice a3 m3 c3, .string S', .string M']] wr fun e w' => e = .returned (.bool (decide (A = A') && (decide (S = S') && decide (M = M')))) ∧ Below wr.heap.size wr w') := fun A' S' M' wr h => by
    have := rsames_ct A S M _ L A' S' M' _ L wr (GL.out wr h) (GL.out wr h)
    unfold sameS at this
    rw [eqL_self, Bool.true_and] at this
    exact this
  have ZA := Z.out.1
  have ZS := Z.out.2.1
  have ZM := Z.out.2.2
  clear hp hy GR GT GL
  by_cases d0 : wh % 3 = 0
  · by_cases k0 : k < A.size
    · go_upto_region 7 with fail
      have i0 : (0 : Int) ≤ (k : Int) := by omega
      have i1 : (k : Int) < (A.size : Int) := by omega
      have i2 : (k : Int) ≤ (A.size : Int) := by omega
      have i3 : (k : Int) + 1 ≤ (A.size : Int) := by omega
      have i4 : (0 : Int) ≤ (k : Int) + 1 := by omega
      have i5 : IntKind.i64.wrap ((k : Int) + 1) = (k : Int) + 1 := by rw [IntKind.wrap_i64]; omega
      have i6 : ((k : Int) + 1).toNat = k + 1 := by omega
      have hX : ∃ x, bits BinOp.xor IntKind.u8 ((A[k]'k0).toNat : Int) by_ = x := ⟨_, rfl⟩
      obtain ⟨x, hx⟩ := hX
      have hC := fun W => hcv.out W (w2.heap.size + 1) x
      generalize hcs : strOfNums [x] = c at hC
      have n0 : (A.extract 0 k).size = k := by rw [ByteArray.size_extract]; omega
      have n1 : (A.extract (k + 1) A.size).size = A.size - (k + 1) := by rw [ByteArray.size_extract]; omega
      have n2 : c.size = 1 := by rw [← hcs, strOfNums_size]; rfl
      have hz := cut_size k0 n2
      have hot := cut_other k0 n2
      obtain ⟨E0, hE0⟩ : ∃ e, A.extract 0 k = e := ⟨_, rfl⟩
      obtain ⟨E1, hE1⟩ : ∃ e, A.extract (k + 1) A.size = e := ⟨_, rfl⟩
      rw [hE0] at n0
      rw [hE1] at n1
      rw [hE0, hE1] at hz hot
      have hno1 : ¬ 9223372036854775807 < E0.size + c.size := by omega
      have hno2 : ¬ 9223372036854775807 < E0.size + c.size + E1.size := by omega
      have Hz := Lib.hid hz
      have Hot := Lib.hid hot
      clear n0 n1 n2 hz hot hcs hcv
      go_cut [] (fun wx => BX wx w2.heap.size 28 (.string (E0 ++ c ++ E1)) (.slice a3 m3 c3) (.string S) (.string M) ∧ BX wx w.heap.size 25 (.bool p) (.bool q) (.slice a1 m1 c1) (.slice a2 m2 c2) ∧ BX wx (w.heap.size + 1) 28 (.string A) (.slice a3 m3 c3) (.string S) (.string M) ∧ Below w.heap.size w wx)
      case first =>
        go_region
        all_goals
          go_wp2_with fail
          go_meet
          exact ⟨((BX.new w2 28 (.string (E0 ++ c ++ E1)) (.slice a3 m3 c3) (.string S) (.string M)).alloc _).drew, ((X.alloc _).alloc _).drew, ((Y.alloc _).alloc _).drew, ((B.alloc B.size _).alloc (Nat.le_trans B.size (by simp)) _).drew⟩
      case rest =>
      clear X Y B Xz X0 X1 X2 X3 Yz Y0 Y1 Y2 Y3 V Vz V0 V1 V2 hC hx hE0 hE1 hno1 hno2
      obtain ⟨TB, X, Y, B⟩ := hcut
      (skip); have Xz := X.lt; have X0 := X.c0; have X1 := X.c1; have X2 := X.c2; have X3 := X.c3; have Yz := Y.lt; have Y0 := Y.c0; have Y1 := Y.c1; have Y2 := Y.c2; have Y3 := Y.c3; have TBz := TB.lt; have TB0 := TB.c0; have TB1 := TB.c1; have TB2 := TB.c2; have TB3 := TB.c3
      have hz := Hz.out
      have KX := Lib.hid (fun wr (h : Below w.heap.size w wr) => KAl.out (E0 ++ c ++ E1) S M wr h hz rfl rfl)
      have KY := Lib.hid (fun wr (h : Below w.heap.size w wr) => KSm.out (E0 ++ c ++ E1) S M wr h)
      have HC := Lib.hid (fun low => one_diff low hz.symm k0 Hot.out)
      obtain ⟨sm, hsm⟩ : ∃ b, decide (A = E0 ++ c ++ E1) = b := ⟨_, rfl⟩
      have e1 : (agP p q A (E0 ++ c ++ E1) && (agS SA S S && agS RA M M)) = ((if k % 2 = 0 then p else q) || sm) := by
        unfold agP agS; rw [agree_self, agree_self, HC.out, hsm, Bool.not_not]; simp
      rw [e1] at KX
      rw [show (decide (A = E0 ++ c ++ E1) && (decide (S = S) && decide (M = M))) = sm by rw [hsm]; simp] at KY
      clear KAl KSm KIr KIs HC Hot Hz hz e1 hsm
      by_cases ev : k % 2 = 0
      · rw [if_pos ev] at KX
        have e2 : (k : Int) % 2 = 0 := by omega
        obtain ⟨sec, hsec⟩ : ∃ b, p = b := ⟨_, rfl⟩
        subst hsec
        go_upto_region 15 with fail
        clear ev e2
        cases p
        · rw [Bool.false_or] at KX
          go_wp2_with fail
          ((with_reducible refine (KX.out _ B).mono ?_))
          rintro e w11 ⟨rfl, hB⟩
          replace B := B.next hB; replace X := X.next hB; replace Y := Y.next hB; replace TB := TB.next hB; clear hB Xz X0 X1 X2 X3 Yz Y0 Y1 Y2 Y3 TBz TB0 TB1 TB2 TB3; have Xz := X.lt; have X0 := X.c0; have X1 := X.c1; have X2 := X.c2; have X3 := X.c3; have Yz := Y.lt; have Y0 := Y.c0; have Y1 := Y.c1; have Y2 := Y.c2; have Y3 := Y.c3; have TBz := TB.lt; have TB0 := TB.c0; have TB1 := TB.c1; have TB2 := TB.c2; have TB3 := TB.c3
          cases sm
          · go_wp2_with fail
            ((with_reducible refine (KY.out _ B).mono ?_))
            rintro e w12 ⟨rfl, hB⟩
            replace B := B.next hB
            clear hB
            go_wp2_with fail
            ((with_reducible refine (KA.out _).mono ?_))
            rintro e w13 ⟨rfl, hB⟩
            replace B := B.next hB
            go_wp2
            go_ret
            exact ⟨rfl, B⟩
          · go_wp2_with fail
            ((with_reducible refine (KY.out _ B).mono ?_))
            rintro e w12 ⟨rfl, hB⟩
            replace B := B.next hB
            clear hB
            go_wp2_with fail
            ((with_reducible refine (KA.out _).mono ?_))
            rintro e w13 ⟨rfl, hB⟩
            replace B := B.next hB
            go_wp2
            go_ret
            exact ⟨rfl, B⟩
        · rw [Bool.true_or] at KX
          go_wp2_with fail
          ((with_reducible refine (KX.out _ B).mono ?_))
          rintro e w11 ⟨rfl, hB⟩
          replace B := B.next hB
          clear hB
          go_wp2_with fail
          ((with_reducible refine (KA.out _).mono ?_))
          rintro e w13 ⟨rfl, hB⟩
          replace B := B.next hB
          go_wp2
          go_ret
          exact ⟨rfl, B⟩
      · rw [if_neg ev] at KX
        have e2 : (k : Int) % 2 = 1 := by omega
        go_upto_region 15 with fail
        clear ev e2
        cases q
        · rw [Bool.false_or] at KX
          go_wp2_with fail
          ((with_reducible refine (KX.out _ B).mono ?_))
          rintro e w11 ⟨rfl, hB⟩
          replace B := B.next hB; replace X := X.next hB; replace Y := Y.next hB; replace TB := TB.next hB; clear hB Xz X0 X1 X2 X3 Yz Y0 Y1 Y2 Y3 TBz TB0 TB1 TB2 TB3; have Xz := X.lt; have X0 := X.c0; have X1 := X.c1; have X2 := X.c2; have X3 := X.c3; have Yz := Y.lt; have Y0 := Y.c0; have Y1 := Y.c1; have Y2 := Y.c2; have Y3 := Y.c3; have TBz := TB.lt; have TB0 := TB.c0; have TB1 := TB.c1; have TB2 := TB.c2; have TB3 := TB.c3
          cases sm
          · go_wp2_with fail
            ((with_reducible refine (KY.out _ B).mono ?_))
            rintro e w12 ⟨rfl, hB⟩
            replace B := B.next hB
            clear hB
            go_wp2_with fail
            ((with_reducible refine (KA.out _).mono ?_))
            rintro e w13 ⟨rfl, hB⟩
            replace B := B.next hB
            go_wp2
            go_ret
            exact ⟨rfl, B⟩
          · go_wp2_with fail
            ((with_reducible refine (KY.out _ B).mono ?_))
            rintro e w12 ⟨rfl, hB⟩
            replace B := B.next hB
            clear hB
            go_wp2_with fail
            ((with_reducible refine (KA.out _).mono ?_))
            rintro e w13 ⟨rfl, hB⟩
            replace B := B.next hB
            go_wp2
            go_ret
            exact ⟨rfl, B⟩
        · rw [Bool.true_or] at KX
          go_wp2_with fail
          ((with_reducible refine (KX.out _ B).mono ?_))
          rintro e w11 ⟨rfl, hB⟩
          replace B := B.next hB
          clear hB
          go_wp2_with fail
          ((with_reducible refine (KA.out _).mono ?_))
          rintro e w13 ⟨rfl, hB⟩
          replace B := B.next hB
          go_wp2
          go_ret
          exact ⟨rfl, B⟩
    · have KX := Lib.hid (fun wr (h : Below w.heap.size w wr) => KAl.out A S M wr h rfl rfl rfl)
      have KY := Lib.hid (fun wr (h : Below w.heap.size w wr) => KSm.out A S M wr h)
      rw [show (agP p q A A && (agS SA S S && agS RA M M)) = true by unfold agP agS; rw [agree_self, agree_self, agree_self]; rfl] at KX
      rw [show (decide (A = A) && (decide (S = S) && decide (M = M))) = true by simp] at KY
      clear KAl KSm KIr KIs hcv
      go_wp2_with fail
      ((with_reducible refine (KX.out _ (B.alloc B.size _)).mono ?_))
      rintro e w11 ⟨rfl, hB⟩
      replace B := (B.alloc B.size _).next hB
      have TB := (BX.new w2 28 (.string A) (.slice a3 m3 c3) (.string S) (.string M)).next hB
      replace X := (X.alloc _).next hB
      replace Y := (Y.alloc _).next hB
      clear hB Xz X0 X1 X2 X3 Yz Y0 Y1 Y2 Y3
      (skip); have Xz := X.lt; have X0 := X.c0; have X1 := X.c1; have X2 := X.c2; have X3 := X.c3; have Yz := Y.lt; have Y0 := Y.c0; have Y1 := Y.c1; have Y2 := Y.c2; have Y3 := Y.c3; have TBz := TB.lt; have TB0 := TB.c0; have TB1 := TB.c1; have TB2 := TB.c2; have TB3 := TB.c3
      go_wp2_with fail
      ((with_reducible refine (KY.out _ B).mono ?_))
      rintro e w12 ⟨rfl, hB⟩
      replace B := B.next hB
      clear hB
      go_wp2_with fail
      ((with_reducible refine (KA.out _).mono ?_))
      rintro e w13 ⟨rfl, hB⟩
      replace B := B.next hB
      go_wp2
      go_ret
      exact ⟨rfl, B⟩
  by_cases d1 : wh % 3 = 1
  · by_cases k0 : k < M.size
    · go_upto_region 10 with fail
      have i0 : (0 : Int) ≤ (k : Int) := by omega
      have i1 : (k : Int) < (M.size : Int) := by omega
      have i2 : (k : Int) ≤ (M.size : Int) := by omega
      have i3 : (k : Int) + 1 ≤ (M.size : Int) := by omega
      have i4 : (0 : Int) ≤ (k : Int) + 1 := by omega
      have i5 : IntKind.i64.wrap ((k : Int) + 1) = (k : Int) + 1 := by rw [IntKind.wrap_i64]; omega
      have i6 : ((k : Int) + 1).toNat = k + 1 := by omega
      have hX : ∃ x, bits BinOp.xor IntKind.u8 ((M[k]'k0).toNat : Int) by_ = x := ⟨_, rfl⟩
      obtain ⟨x, hx⟩ := hX
      have hC := fun W => hcv.out W (w2.heap.size + 1) x
      generalize hcs : strOfNums [x] = c at hC
      have n0 : (M.extract 0 k).size = k := by rw [ByteArray.size_extract]; omega
      have n1 : (M.extract (k + 1) M.size).size = M.size - (k + 1) := by rw [ByteArray.size_extract]; omega
      have n2 : c.size = 1 := by rw [← hcs, strOfNums_size]; rfl
      have hz := cut_size k0 n2
      have hot := cut_other k0 n2
      obtain ⟨E0, hE0⟩ : ∃ e, M.extract 0 k = e := ⟨_, rfl⟩
      obtain ⟨E1, hE1⟩ : ∃ e, M.extract (k + 1) M.size = e := ⟨_, rfl⟩
      rw [hE0] at n0
      rw [hE1] at n1
      rw [hE0, hE1] at hz hot
      have hno1 : ¬ 9223372036854775807 < E0.size + c.size := by omega
      have hno2 : ¬ 9223372036854775807 < E0.size + c.size + E1.size := by omega
      have Hz := Lib.hid hz
      have Hot := Lib.hid hot
      clear n0 n1 n2 hz hot hcs hcv
      go_cut [] (fun wx => BX wx w2.heap.size 28 (.string A) (.slice a3 m3 c3) (.string S) (.string (E0 ++ c ++ E1)) ∧ BX wx w.heap.size 25 (.bool p) (.bool q) (.slice a1 m1 c1) (.slice a2 m2 c2) ∧ BX wx (w.heap.size + 1) 28 (.string A) (.slice a3 m3 c3) (.string S) (.string M) ∧ Below w.heap.size w wx)
      case first =>
        go_region
        all_goals
          go_wp2_with fail
          go_meet
          exact ⟨((BX.new w2 28 (.string A) (.slice a3 m3 c3) (.string S) (.string (E0 ++ c ++ E1))).alloc _).drew, ((X.alloc _).alloc _).drew, ((Y.alloc _).alloc _).drew, ((B.alloc B.size _).alloc (Nat.le_trans B.size (by simp)) _).drew⟩
      case rest =>
      clear X Y B Xz X0 X1 X2 X3 Yz Y0 Y1 Y2 Y3 V Vz V0 V1 V2 hC hx hE0 hE1 hno1 hno2
      obtain ⟨TB, X, Y, B⟩ := hcut
      (skip); have Xz := X.lt; have X0 := X.c0; have X1 := X.c1; have X2 := X.c2; have X3 := X.c3; have Yz := Y.lt; have Y0 := Y.c0; have Y1 := Y.c1; have Y2 := Y.c2; have Y3 := Y.c3; have TBz := TB.lt; have TB0 := TB.c0; have TB1 := TB.c1; have TB2 := TB.c2; have TB3 := TB.c3
      have hz := Hz.out
      have KX := Lib.hid (fun wr (h : Below w.heap.size w wr) => KAl.out A S (E0 ++ c ++ E1) wr h rfl rfl hz)
      have KY := Lib.hid (fun wr (h : Below w.heap.size w wr) => KSm.out A S (E0 ++ c ++ E1) wr h)
      have HC := Lib.hid (fun low => one_diff low hz.symm k0 Hot.out)
      obtain ⟨sm, hsm⟩ : ∃ b, decide (M = E0 ++ c ++ E1) = b := ⟨_, rfl⟩
      have e1 : (agP p q A A && (agS SA S S && agS RA M (E0 ++ c ++ E1))) = (inB RA k || sm) := by
        unfold agP agS; rw [agree_self, agree_self, HC.out, hsm, Bool.not_not]; simp
      rw [e1] at KX
      rw [show (decide (A = A) && (decide (S = S) && decide (M = E0 ++ c ++ E1))) = sm by rw [hsm]; simp] at KY
      obtain ⟨sec, hsec⟩ : ∃ b, inB RA k = b := ⟨_, rfl⟩
      rw [hsec] at KX KIr
      clear KAl KSm HC Hot Hz hz e1 hsm hsec
      go_wp2_with fail
      ((with_reducible refine (KIr.out _ B).mono ?_))
      rintro e w10 ⟨rfl, rfl⟩
      cases sec
      · rw [Bool.false_or] at KX
        go_wp2_with fail
        ((with_reducible refine (KX.out _ B).mono ?_))
        rintro e w11 ⟨rfl, hB⟩
        replace B := B.next hB; replace X := X.next hB; replace Y := Y.next hB; replace TB := TB.next hB; clear hB Xz X0 X1 X2 X3 Yz Y0 Y1 Y2 Y3 TBz TB0 TB1 TB2 TB3; have Xz := X.lt; have X0 := X.c0; have X1 := X.c1; have X2 := X.c2; have X3 := X.c3; have Yz := Y.lt; have Y0 := Y.c0; have Y1 := Y.c1; have Y2 := Y.c2; have Y3 := Y.c3; have TBz := TB.lt; have TB0 := TB.c0; have TB1 := TB.c1; have TB2 := TB.c2; have TB3 := TB.c3
        cases sm
        · go_wp2_with fail
          ((with_reducible refine (KY.out _ B).mono ?_))
          rintro e w12 ⟨rfl, hB⟩
          replace B := B.next hB
          clear hB
          go_wp2_with fail
          ((with_reducible refine (KA.out _).mono ?_))
          rintro e w13 ⟨rfl, hB⟩
          replace B := B.next hB
          go_wp2
          go_ret
          exact ⟨rfl, B⟩
        · go_wp2_with fail
          ((with_reducible refine (KY.out _ B).mono ?_))
          rintro e w12 ⟨rfl, hB⟩
          replace B := B.next hB
          clear hB
          go_wp2_with fail
          ((with_reducible refine (KA.out _).mono ?_))
          rintro e w13 ⟨rfl, hB⟩
          replace B := B.next hB
          go_wp2
          go_ret
          exact ⟨rfl, B⟩
      · rw [Bool.true_or] at KX
        go_wp2_with fail
        ((with_reducible refine (KX.out _ B).mono ?_))
        rintro e w11 ⟨rfl, hB⟩
        replace B := B.next hB
        clear hB
        go_wp2_with fail
        ((with_reducible refine (KA.out _).mono ?_))
        rintro e w13 ⟨rfl, hB⟩
        replace B := B.next hB
        go_wp2
        go_ret
        exact ⟨rfl, B⟩
    · have KX := Lib.hid (fun wr (h : Below w.heap.size w wr) => KAl.out A S M wr h rfl rfl rfl)
      have KY := Lib.hid (fun wr (h : Below w.heap.size w wr) => KSm.out A S M wr h)
      rw [show (agP p q A A && (agS SA S S && agS RA M M)) = true by unfold agP agS; rw [agree_self, agree_self, agree_self]; rfl] at KX
      rw [show (decide (A = A) && (decide (S = S) && decide (M = M))) = true by simp] at KY
      clear KAl KSm KIr KIs hcv
      go_wp2_with fail
      ((with_reducible refine (KX.out _ (B.alloc B.size _)).mono ?_))
      rintro e w11 ⟨rfl, hB⟩
      replace B := (B.alloc B.size _).next hB
      have TB := (BX.new w2 28 (.string A) (.slice a3 m3 c3) (.string S) (.string M)).next hB
      replace X := (X.alloc _).next hB
      replace Y := (Y.alloc _).next hB
      clear hB Xz X0 X1 X2 X3 Yz Y0 Y1 Y2 Y3
      (skip); have Xz := X.lt; have X0 := X.c0; have X1 := X.c1; have X2 := X.c2; have X3 := X.c3; have Yz := Y.lt; have Y0 := Y.c0; have Y1 := Y.c1; have Y2 := Y.c2; have Y3 := Y.c3; have TBz := TB.lt; have TB0 := TB.c0; have TB1 := TB.c1; have TB2 := TB.c2; have TB3 := TB.c3
      go_wp2_with fail
      ((with_reducible refine (KY.out _ B).mono ?_))
      rintro e w12 ⟨rfl, hB⟩
      replace B := B.next hB
      clear hB
      go_wp2_with fail
      ((with_reducible refine (KA.out _).mono ?_))
      rintro e w13 ⟨rfl, hB⟩
      replace B := B.next hB
      go_wp2
      go_ret
      exact ⟨rfl, B⟩
  have d2 : wh % 3 = 2 := by omega
  by_cases k0 : k < S.size
  · go_upto_region 13 with fail
    have i0 : (0 : Int) ≤ (k : Int) := by omega
    have i1 : (k : Int) < (S.size : Int) := by omega
    have i2 : (k : Int) ≤ (S.size : Int) := by omega
    have i3 : (k : Int) + 1 ≤ (S.size : Int) := by omega
    have i4 : (0 : Int) ≤ (k : Int) + 1 := by omega
    have i5 : IntKind.i64.wrap ((k : Int) + 1) = (k : Int) + 1 := by rw [IntKind.wrap_i64]; omega
    have i6 : ((k : Int) + 1).toNat = k + 1 := by omega
    have hX : ∃ x, bits BinOp.xor IntKind.u8 ((S[k]'k0).toNat : Int) by_ = x := ⟨_, rfl⟩
    obtain ⟨x, hx⟩ := hX
    have hC := fun W => hcv.out W (w2.heap.size + 1) x
    generalize hcs : strOfNums [x] = c at hC
    have n0 : (S.extract 0 k).size = k := by rw [ByteArray.size_extract]; omega
    have n1 : (S.extract (k + 1) S.size).size = S.size - (k + 1) := by rw [ByteArray.size_extract]; omega
    have n2 : c.size = 1 := by rw [← hcs, strOfNums_size]; rfl
    have hz := cut_size k0 n2
    have hot := cut_other k0 n2
    obtain ⟨E0, hE0⟩ : ∃ e, S.extract 0 k = e := ⟨_, rfl⟩
    obtain ⟨E1, hE1⟩ : ∃ e, S.extract (k + 1) S.size = e := ⟨_, rfl⟩
    rw [hE0] at n0
    rw [hE1] at n1
    rw [hE0, hE1] at hz hot
    have hno1 : ¬ 9223372036854775807 < E0.size + c.size := by omega
    have hno2 : ¬ 9223372036854775807 < E0.size + c.size + E1.size := by omega
    have Hz := Lib.hid hz
    have Hot := Lib.hid hot
    clear n0 n1 n2 hz hot hcs hcv
    go_cut [] (fun wx => BX wx w2.heap.size 28 (.string A) (.slice a3 m3 c3) (.string (E0 ++ c ++ E1)) (.string M) ∧ BX wx w.heap.size 25 (.bool p) (.bool q) (.slice a1 m1 c1) (.slice a2 m2 c2) ∧ BX wx (w.heap.size + 1) 28 (.string A) (.slice a3 m3 c3) (.string S) (.string M) ∧ Below w.heap.size w wx)
    case first =>
      go_region
      all_goals
        go_wp2_with fail
        go_meet
        exact ⟨((BX.new w2 28 (.string A) (.slice a3 m3 c3) (.string (E0 ++ c ++ E1)) (.string M)).alloc _).drew, ((X.alloc _).alloc _).drew, ((Y.alloc _).alloc _).drew, ((B.alloc B.size _).alloc (Nat.le_trans B.size (by simp)) _).drew⟩
    case rest =>
    clear X Y B Xz X0 X1 X2 X3 Yz Y0 Y1 Y2 Y3 V Vz V0 V1 V2 hC hx hE0 hE1 hno1 hno2
    obtain ⟨TB, X, Y, B⟩ := hcut
    (skip); have Xz := X.lt; have X0 := X.c0; have X1 := X.c1; have X2 := X.c2; have X3 := X.c3; have Yz := Y.lt; have Y0 := Y.c0; have Y1 := Y.c1; have Y2 := Y.c2; have Y3 := Y.c3; have TBz := TB.lt; have TB0 := TB.c0; have TB1 := TB.c1; have TB2 := TB.c2; have TB3 := TB.c3
    have hz := Hz.out
    have KX := Lib.hid (fun wr (h : Below w.heap.size w wr) => KAl.out A (E0 ++ c ++ E1) M wr h rfl hz rfl)
    have KY := Lib.hid (fun wr (h : Below w.heap.size w wr) => KSm.out A (E0 ++ c ++ E1) M wr h)
    have HC := Lib.hid (fun low => one_diff low hz.symm k0 Hot.out)
    obtain ⟨sm, hsm⟩ : ∃ b, decide (S = E0 ++ c ++ E1) = b := ⟨_, rfl⟩
    have e1 : (agP p q A A && (agS SA S (E0 ++ c ++ E1) && agS RA M M)) = (inB SA k || sm) := by
      unfold agP agS; rw [agree_self, agree_self, HC.out, hsm, Bool.not_not]; simp
    rw [e1] at KX
    rw [show (decide (A = A) && (decide (S = E0 ++ c ++ E1) && decide (M = M))) = sm by rw [hsm]; simp] at KY
    obtain ⟨sec, hsec⟩ : ∃ b, inB SA k = b := ⟨_, rfl⟩
    rw [hsec] at KX KIs
    clear KAl KSm HC Hot Hz hz e1 hsm hsec
    go_wp2_with fail
    ((with_reducible refine (KIs.out _ B).mono ?_))
    rintro e w10 ⟨rfl, rfl⟩
    cases sec
    · rw [Bool.false_or] at KX
      go_wp2_with fail
      ((with_reducible refine (KX.out _ B).mono ?_))
      rintro e w11 ⟨rfl, hB⟩
      replace B := B.next hB; replace X := X.next hB; replace Y := Y.next hB; replace TB := TB.next hB; clear hB Xz X0 X1 X2 X3 Yz Y0 Y1 Y2 Y3 TBz TB0 TB1 TB2 TB3; have Xz := X.lt; have X0 := X.c0; have X1 := X.c1; have X2 := X.c2; have X3 := X.c3; have Yz := Y.lt; have Y0 := Y.c0; have Y1 := Y.c1; have Y2 := Y.c2; have Y3 := Y.c3; have TBz := TB.lt; have TB0 := TB.c0; have TB1 := TB.c1; have TB2 := TB.c2; have TB3 := TB.c3
      cases sm
      · go_wp2_with fail
        ((with_reducible refine (KY.out _ B).mono ?_))
        rintro e w12 ⟨rfl, hB⟩
        replace B := B.next hB
        clear hB
        go_wp2_with fail
        ((with_reducible refine (KA.out _).mono ?_))
        rintro e w13 ⟨rfl, hB⟩
        replace B := B.next hB
        go_wp2
        go_ret
        exact ⟨rfl, B⟩
      · go_wp2_with fail
        ((with_reducible refine (KY.out _ B).mono ?_))
        rintro e w12 ⟨rfl, hB⟩
        replace B := B.next hB
        clear hB
        go_wp2_with fail
        ((with_reducible refine (KA.out _).mono ?_))
        rintro e w13 ⟨rfl, hB⟩
        replace B := B.next hB
        go_wp2
        go_ret
        exact ⟨rfl, B⟩
    · rw [Bool.true_or] at KX
      go_wp2_with fail
      ((with_reducible refine (KX.out _ B).mono ?_))
      rintro e w11 ⟨rfl, hB⟩
      replace B := B.next hB
      clear hB
      go_wp2_with fail
      ((with_reducible refine (KA.out _).mono ?_))
      rintro e w13 ⟨rfl, hB⟩
      replace B := B.next hB
      go_wp2
      go_ret
      exact ⟨rfl, B⟩
  · have KX := Lib.hid (fun wr (h : Below w.heap.size w wr) => KAl.out A S M wr h rfl rfl rfl)
    have KY := Lib.hid (fun wr (h : Below w.heap.size w wr) => KSm.out A S M wr h)
    rw [show (agP p q A A && (agS SA S S && agS RA M M)) = true by unfold agP agS; rw [agree_self, agree_self, agree_self]; rfl] at KX
    rw [show (decide (A = A) && (decide (S = S) && decide (M = M))) = true by simp] at KY
    clear KAl KSm KIr KIs hcv
    go_wp2_with fail
    ((with_reducible refine (KX.out _ (B.alloc B.size _)).mono ?_))
    rintro e w11 ⟨rfl, hB⟩
    replace B := (B.alloc B.size _).next hB
    have TB := (BX.new w2 28 (.string A) (.slice a3 m3 c3) (.string S) (.string M)).next hB
    replace X := (X.alloc _).next hB
    replace Y := (Y.alloc _).next hB
    clear hB Xz X0 X1 X2 X3 Yz Y0 Y1 Y2 Y3
    (skip); have Xz := X.lt; have X0 := X.c0; have X1 := X.c1; have X2 := X.c2; have X3 := X.c3; have Yz := Y.lt; have Y0 := Y.c0; have Y1 := Y.c1; have Y2 := Y.c2; have Y3 := Y.c3; have TBz := TB.lt; have TB0 := TB.c0; have TB1 := TB.c1; have TB2 := TB.c2; have TB3 := TB.c3
    go_wp2_with fail
    ((with_reducible refine (KY.out _ B).mono ?_))
    rintro e w12 ⟨rfl, hB⟩
    replace B := B.next hB
    clear hB
    go_wp2_with fail
    ((with_reducible refine (KA.out _).mono ?_))
    rintro e w13 ⟨rfl, hB⟩
    replace B := B.next hB
    go_wp2
    go_ret
    exact ⟨rfl, B⟩
end Go.Proofs.Ytjiilcnbajcdhaa
