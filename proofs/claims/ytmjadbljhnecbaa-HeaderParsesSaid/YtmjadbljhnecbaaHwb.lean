/-
  The document's Whole, of what begins as a header of the first kind does. Over this seat's translation; a text is no longer than a slice may be.
-/
import Derived.Test.YtmjadbljhnecbaaHwd
namespace Go.Proofs.Ytmjadbljhnecbaa
open Go.RowKit

set_option maxRecDepth 100000 in
set_option maxHeartbeats 8000000 in
theorem whole_y0 (s : ByteArray) (w : World) (hz : s.size ≤ maxLen) (hm : magB s = true) (h7 : secK (oct s 7) = false) : Calls Try.prog 12 #[.string s] w fun e w' => e = .returned (wholeV s) ∧ Below w.heap.size w w' := by
  unfold maxLen at hz
  obtain ⟨hs, m0, m1, m2, m3⟩ := mag_true hm
  obtain ⟨W, hW⟩ : ∃ W, wholeV s = W := ⟨_, rfl⟩
  rw [hW]
  rw [wholeV_one s hm h7] at hW
  have l0 : 0 < s.size := by omega
  have e0 := oct_at s 0 l0
  have l1 : 1 < s.size := by omega
  have e1 := oct_at s 1 l1
  have l2 : 2 < s.size := by omega
  have e2 := oct_at s 2 l2
  have l3 : 3 < s.size := by omega
  have e3 := oct_at s 3 l3
  have l4 : 4 < s.size := by omega
  have e4 := oct_at s 4 l4
  have l5 : 5 < s.size := by omega
  have e5 := oct_at s 5 l5
  have l6 : 6 < s.size := by omega
  have e6 := oct_at s 6 l6
  have l7 : 7 < s.size := by omega
  have e7 := oct_at s 7 l7
  have l8 : 8 < s.size := by omega
  have e8 := oct_at s 8 l8
  have l9 : 9 < s.size := by omega
  have e9 := oct_at s 9 l9
  have hs' : ¬ (s.size : Int) < 16 := by omega
  have a4 := oct_lo s 4
  have b4 := oct_hi s 4
  have a5 := oct_lo s 5
  have b5 := oct_hi s 5
  have a6 := oct_lo s 6
  have b6 := oct_hi s 6
  have a7 := oct_lo s 7
  have b7 := oct_hi s 7
  have a8 := oct_lo s 8
  have b8 := oct_hi s 8
  have a9 := oct_lo s 9
  have b9 := oct_hi s 9
  rw [m0] at e0
  rw [m1] at e1
  rw [m2] at e2
  rw [m3] at e3
  generalize oct s 4 = x4 at *
  generalize oct s 5 = x5 at *
  generalize oct s 6 = x6 at *
  generalize oct s 7 = x7 at *
  generalize oct s 8 = x8 at *
  generalize oct s 9 = x9 at *
  clear hm m0 m1 m2 m3 hs
  have KB0 := fun wr => hrbit_d x6 0 0 1 wr a6 b6 (by omega) (by rfl) (by rfl)
  have KB1 := fun wr => hrbit_d x6 1 1 2 wr a6 b6 (by omega) (by rfl) (by rfl)
  have KB3 := fun wr => hrbit_d x6 3 3 8 wr a6 b6 (by omega) (by rfl) (by rfl)
  have KB2 := fun wr => hrbit_d x6 2 2 4 wr a6 b6 (by omega) (by rfl) (by rfl)
  have KD3 := fun wr => hrbit_d x7 3 3 8 wr a7 b7 (by omega) (by rfl) (by rfl)
  have KD2 := fun wr => hrbit_d x7 2 2 4 wr a7 b7 (by omega) (by rfl) (by rfl)
  simp only [Int.ediv_one] at KB0
  have KP := fun wr => ramount_ct x4 0 16384 wr a4 b4 (by omega) (by omega) (by omega) (by omega)
  have KK := fun wr => ramount_ct x5 0 8192 wr a5 b5 (by omega) (by omega) (by omega) (by omega)
  obtain ⟨p0, p1⟩ := amtR_in x4 0 16384 a4 b4 (by omega) (by omega) (by omega) (by omega)
  obtain ⟨k0, k1⟩ := amtR_in x5 0 8192 a5 b5 (by omega) (by omega) (by omega) (by omega)
  have hR : ∀ q : Int, q = (if amtR x5 0 8192 = 0 then 8192 else amtR x5 0 8192) → (⟨x6 / 16 + x7 / 16 * 16, 0, amtR x4 0 16384, q, decide (x6 / 2 % 2 = 1), decide (x6 / 8 % 2 = 1), decide (x6 % 2 = 1), false, decide (amtR x5 0 8192 = 0)⟩ : Crt) = crtR x4 x5 x6 x7 0 0 := fun q hq => by
    rw [hq]
    unfold crtR
    rw [h7]
    congr 1 <;> first | rfl | omega
  have hE := crt_err x4 x5 x6 x7 0 0 a4 b4 a5 b5
  have hS := crt_same x4 x5 x6 x7 0 0 a4 b4 a5 b5
  have KC : ∀ (q : Int) (z : Bool) wr, q = (if amtR x5 0 8192 = 0 then 8192 else amtR x5 0 8192) → z = decide (amtR x5 0 8192 = 0) → Calls Try.prog 16 #[crtV ⟨x6 / 16 + x7 / 16 * 16, 0, amtR x4 0 16384, q, decide (x6 / 2 % 2 = 1), decide (x6 / 8 % 2 = 1), decide (x6 % 2 = 1), false, z⟩] wr fun e w' => e = .returned (.int .i64 (chkN (crtOf x4 x5 x6 x7 0 0))) ∧ Below wr.heap.size wr w' := fun q z wr hq hz => by
    subst hz
    rw [← hE, ← hR q hq]
    exact rcheck_ct _ wr
  simp only [crtV] at KC
  have hfin : chkN (crtOf x4 x5 x6 x7 0 0) = 0 → ∀ q : Int, q = (if amtR x5 0 8192 = 0 then 8192 else amtR x5 0 8192) → crtOf x4 x5 x6 x7 0 0 = ⟨x6 / 16 + x7 / 16 * 16, 0, amtR x4 0 16384, q, decide (x6 / 2 % 2 = 1), decide (x6 / 8 % 2 = 1), decide (x6 % 2 = 1), false, decide (amtR x5 0 8192 = 0)⟩ := fun h q hq => by
    rw [hR q hq, hS h]
  have HF := Lib.hid hfin
  have HV := Lib.hid hW
  obtain ⟨E, hEE⟩ : ∃ E, chkN (crtOf x4 x5 x6 x7 0 0) = E := ⟨_, rfl⟩
  rw [hEE] at KC
  have HE := Lib.hid hEE
  have H7 := Lib.hid h7
  clear hfin hW hR hE hS hEE h7
  obtain ⟨P, hP⟩ : ∃ P, amtR x4 0 16384 = P := ⟨_, rfl⟩
  obtain ⟨K, hK⟩ : ∃ K, amtR x5 0 8192 = K := ⟨_, rfl⟩
  rw [hP] at KP KC HF p0 p1
  rw [hK] at KK KC HF k0 k1
  clear hP hK
  have HKC := Lib.hid KC
  have HKP := Lib.hid KP
  have HKK := Lib.hid KK
  have HB2 := Lib.hid KB2
  clear KC KP KK KB2
  generalize decide (x6 / 2 % 2 = 1) = B at *
  generalize decide (x6 / 8 % 2 = 1) = F at *
  generalize decide (x6 % 2 = 1) = V at *
  go_enter Try.func12, Try.ntmps12
  go_upto_region 3 with fail
  have Z : CX (w.alloc (.cells #[.int .i64 0, .int .i64 0, .int .i64 0, .int .i64 0, .bool false, .bool false, .bool false, .bool false, .bool false] 26)) w.heap.size crt0 := CX.new w crt0
  have B0 : Below w.heap.size w (w.alloc (.cells #[.int .i64 0, .int .i64 0, .int .i64 0, .int .i64 0, .bool false, .bool false, .bool false, .bool false, .bool false] 26)) := (by repeat' (first | exact Below.refl _ _ | (refine Below.setCell ?_ (by first | (simp; done) | (simp; omega) | omega) _) | (refine Below.drew ?_) | (refine Below.drewN ?_ _) | (refine Below.alloc ?_ (by first | (simp; done) | (simp; omega) | omega) _)))
  generalize w.alloc (.cells #[.int .i64 0, .int .i64 0, .int .i64 0, .int .i64 0, .bool false, .bool false, .bool false, .bool false, .bool false] 26) = wa at Z B0 ⊢
  have HZ := Lib.hid Z
  have HB := Lib.hid B0
  clear Z B0
  go_cut [5] (fun t wx => CartCut w w.heap.size ⟨0, 0, 0, 0, B, F, V, false, false⟩ t wx)
  case first =>
    by_cases h3 : x7 / 8 % 2 = 1
    · rw [show decide (x7 / 8 % 2 = 1) = true by simp [h3]] at KD3
      rw [show decide (x7 / 4 % 2 = 1) = true by have := H7.out; unfold secK at this; simp at this ⊢; omega] at KD2
      clear h3
      refine wp_region_box1 19 5 26 (.cells #[.int .i64 0, .int .i64 0, .int .i64 0, .int .i64 0, .bool false, .bool false, .bool false, .bool false, .bool false] 26) (by kernel_rfl) (by kernel_rfl) (by kernel_rfl) (by rfl) run_alloc_cart fun w2 hw2 => ?_
      (simp only [List.take_succ_cons, List.take_zero, List.drop_succ_cons, List.drop_zero])
      (repeat (go_big_quiet_step ((go_at_call 20; first | (with_reducible exact Calls.regrown_of (KB0 _)) | (with_reducible exact Calls.regrown_of (KB1 _)) | (with_reducible exact Calls.regrown_of (KB3 _)) | (with_reducible exact Calls.regrown_of (KD3 _)) | (with_reducible exact Calls.regrown_of (KD2 _))))))
      (refine wpQuiet_nil ?_)
      intro b w' hB hb0 hb1 hO
      have C := CX.of_box hO
      have hzz := HZ.out.lt
      have hbz : b ≠ w.heap.size := by omega
      have Z := HZ.out.next hB
      have BB := HB.out.next hB
      have hw0 : w.heap.size ≤ b := by omega
      have hlt : w.heap.size < b := by omega
      clear hO HZ HB hB hb0 KB0 KB1 KB3 KD3 KD2
      have HC := Lib.hid C
      have HZ := Lib.hid Z
      unfold crt0 at C
      (skip); have Cz := C.lt; have C0 := C.c0; have C1 := C.c1; have C2 := C.c2; have C3 := C.c3; have C4 := C.c4; have C5 := C.c5; have C6 := C.c6; have C7 := C.c7; have C8 := C.c8; (try dsimp only at C0 C1 C2 C3 C4 C5 C6 C7 C8)
      have Cf := C.free
      clear C Z
      simp only [Act.put, ptrTo, List.setIfInBounds_toArray, List.set_cons_succ, List.set_cons_zero]
      have HW1 := Lib.hid (below_set9 BB hw0 ⟨0, 0, 0, 0, B, F, V, false, false⟩)
      clear BB
      go_wp2
      go_meet
      exact ⟨b, rfl, hlt, HC.out.set ⟨0, 0, 0, 0, B, F, V, false, false⟩, HZ.out.others hbz ⟨0, 0, 0, 0, B, F, V, false, false⟩, HW1.out⟩
    · rw [show decide (x7 / 8 % 2 = 1) = false by simp [h3]] at KD3
      clear h3 KD2
      refine wp_region_box1 19 5 26 (.cells #[.int .i64 0, .int .i64 0, .int .i64 0, .int .i64 0, .bool false, .bool false, .bool false, .bool false, .bool false] 26) (by kernel_rfl) (by kernel_rfl) (by kernel_rfl) (by rfl) run_alloc_cart fun w2 hw2 => ?_
      (simp only [List.take_succ_cons, List.take_zero, List.drop_succ_cons, List.drop_zero])
      (repeat (go_big_quiet_step ((go_at_call 20; first | (with_reducible exact Calls.regrown_of (KB0 _)) | (with_reducible exact Calls.regrown_of (KB1 _)) | (with_reducible exact Calls.regrown_of (KB3 _)) | (with_reducible exact Calls.regrown_of (KD3 _))))))
      (refine wpQuiet_nil ?_)
      intro b w' hB hb0 hb1 hO
      have C := CX.of_box hO
      have hzz := HZ.out.lt
      have hbz : b ≠ w.heap.size := by omega
      have Z := HZ.out.next hB
      have BB := HB.out.next hB
      have hw0 : w.heap.size ≤ b := by omega
      have hlt : w.heap.size < b := by omega
      clear hO HZ HB hB hb0 KB0 KB1 KB3 KD3
      have HC := Lib.hid C
      have HZ := Lib.hid Z
      unfold crt0 at C
      (skip); have Cz := C.lt; have C0 := C.c0; have C1 := C.c1; have C2 := C.c2; have C3 := C.c3; have C4 := C.c4; have C5 := C.c5; have C6 := C.c6; have C7 := C.c7; have C8 := C.c8; (try dsimp only at C0 C1 C2 C3 C4 C5 C6 C7 C8)
      have Cf := C.free
      clear C Z
      simp only [Act.put, ptrTo, List.setIfInBounds_toArray, List.set_cons_succ, List.set_cons_zero]
      have HW1 := Lib.hid (below_set9 BB hw0 ⟨0, 0, 0, 0, B, F, V, false, false⟩)
      clear BB
      go_wp2
      go_meet
      exact ⟨b, rfl, hlt, HC.out.set ⟨0, 0, 0, 0, B, F, V, false, false⟩, HZ.out.others hbz ⟨0, 0, 0, 0, B, F, V, false, false⟩, HW1.out⟩
  case rest =>
  obtain ⟨b, rfl, hlt, C, Z, B0⟩ := hcut
  have hbz : b ≠ w.heap.size := by omega
  have hw0 : w.heap.size ≤ b := by omega
  clear KB0 KB1 KB3 KD3 KD2 HZ HB
  have HC := Lib.hid C
  have HZ := Lib.hid Z
  have HB := Lib.hid B0
  (skip); have Cz := C.lt; have C0 := C.c0; have C1 := C.c1; have C2 := C.c2; have C3 := C.c3; have C4 := C.c4; have C5 := C.c5; have C6 := C.c6; have C7 := C.c7; have C8 := C.c8; (try dsimp only at C0 C1 C2 C3 C4 C5 C6 C7 C8)
  have Cf := C.free
  clear C Z B0
  go_wp2
  go_region
  go_wp2_with fail
  ((with_reducible refine (HKP.out _).mono ?_))
  rintro e w1 ⟨rfl, hB⟩
  replace HC := Lib.hid ((HC.out.set_m (x6 / 16 + x7 / 16 * 16)).drew.next hB)
  replace HZ := Lib.hid ((HZ.out.other hbz 0 _).drew.next hB)
  replace HB := Lib.hid ((HB.out.setCell (p := ⟨b, 0, none⟩) hw0 _).drew.next hB)
  dsimp only at HC
  clear hB Cz C0 C1 C2 C3 C4 C5 C6 C7 C8 Cf
  have C := HC.out
  (skip); have Cz := C.lt; have C0 := C.c0; have C1 := C.c1; have C2 := C.c2; have C3 := C.c3; have C4 := C.c4; have C5 := C.c5; have C6 := C.c6; have C7 := C.c7; have C8 := C.c8; (try dsimp only at C0 C1 C2 C3 C4 C5 C6 C7 C8)
  have Cf := C.free
  clear C
  go_wp2_with fail
  ((with_reducible refine (HKK.out _).mono ?_))
  rintro e w2 ⟨rfl, hB⟩
  replace HC := Lib.hid ((HC.out.set_p P).next hB)
  replace HZ := Lib.hid ((HZ.out.other hbz 2 _).next hB)
  replace HB := Lib.hid ((HB.out.setCell (p := ⟨b, 2, none⟩) hw0 _).next hB)
  dsimp only at HC
  clear hB Cz C0 C1 C2 C3 C4 C5 C6 C7 C8 Cf
  have C := HC.out
  (skip); have Cz := C.lt; have C0 := C.c0; have C1 := C.c1; have C2 := C.c2; have C3 := C.c3; have C4 := C.c4; have C5 := C.c5; have C6 := C.c6; have C7 := C.c7; have C8 := C.c8; (try dsimp only at C0 C1 C2 C3 C4 C5 C6 C7 C8)
  have Cf := C.free
  clear C
  clear HKP HKK
  by_cases hK : K = 0
  · subst hK
    go_wp2_with fail
    ((with_reducible refine (HKC.out 8192 true _ (by simp) (by simp)).mono ?_))
    rintro e w3 ⟨rfl, hB⟩
    replace HC := Lib.hid ((((HC.out.set_k 0).set_o true).set_k 8192).next hB)
    replace HZ := Lib.hid ((((HZ.out.other hbz 3 _).other hbz 8 _).other hbz 3 _).next hB)
    replace HB := Lib.hid ((((HB.out.setCell (p := ⟨b, 3, none⟩) hw0 _).setCell (p := ⟨b, 8, none⟩) hw0 _).setCell (p := ⟨b, 3, none⟩) hw0 _).next hB)
    dsimp only at HC
    clear hB Cz C0 C1 C2 C3 C4 C5 C6 C7 C8 Cf
    have C := HC.out
    (skip); have Cz := C.lt; have C0 := C.c0; have C1 := C.c1; have C2 := C.c2; have C3 := C.c3; have C4 := C.c4; have C5 := C.c5; have C6 := C.c6; have C7 := C.c7; have C8 := C.c8; (try dsimp only at C0 C1 C2 C3 C4 C5 C6 C7 C8)
    have Cf := C.free
    clear C
    clear HKC
    have Z := HZ.out
    unfold crt0 at Z
    (skip); have Zz := Z.lt; have Z0 := Z.c0; have Z1 := Z.c1; have Z2 := Z.c2; have Z3 := Z.c3; have Z4 := Z.c4; have Z5 := Z.c5; have Z6 := Z.c6; have Z7 := Z.c7; have Z8 := Z.c8; (try dsimp only at Z0 Z1 Z2 Z3 Z4 Z5 Z6 Z7 Z8)
    have Zf := Z.free
    clear Z
    by_cases hE0 : E = 0
    · subst hE0
      have hc : crtOf x4 x5 x6 x7 0 0 = ⟨x6 / 16 + x7 / 16 * 16, 0, P, 8192, B, F, V, false, true⟩ := (HF.out HE.out 8192 (by simp)).trans (by simp)
      have hgv : givN ⟨x6 / 16 + x7 / 16 * 16, 0, P, 8192, B, F, V, false, true⟩ = 0 := rfl
      have Hc := Lib.hid hc
      have Hg := Lib.hid hgv
      clear hc hgv
      by_cases h4 : x6 / 4 % 2 = 1
      · have KT := HB2.out
        rw [show decide (x6 / 4 % 2 = 1) = true by simp [h4]] at KT
        have HT := Lib.hid KT
        have H4 := Lib.hid h4
        clear KT h4 HB2
        go_wp2_with fail
        ((with_reducible refine (HT.out _).mono ?_))
        rintro e w4 ⟨rfl, hB⟩
        replace HB := Lib.hid (HB.out.next hB)
        replace HC := Lib.hid (HC.out.next hB)
        replace HZ := Lib.hid (HZ.out.next hB)
        clear hB HT Cz C0 C1 C2 C3 C4 C5 C6 C7 C8 Cf Zz Z0 Z1 Z2 Z3 Z4 Z5 Z6 Z7 Z8 Zf
        have C := HC.out
        have Z := HZ.out
        unfold crt0 at Z
        (skip); have Cz := C.lt; have C0 := C.c0; have C1 := C.c1; have C2 := C.c2; have C3 := C.c3; have C4 := C.c4; have C5 := C.c5; have C6 := C.c6; have C7 := C.c7; have C8 := C.c8; (try dsimp only at C0 C1 C2 C3 C4 C5 C6 C7 C8); have Zz := Z.lt; have Z0 := Z.c0; have Z1 := Z.c1; have Z2 := Z.c2; have Z3 := Z.c3; have Z4 := Z.c4; have Z5 := Z.c5; have Z6 := Z.c6; have Z7 := Z.c7; have Z8 := Z.c8; (try dsimp only at Z0 Z1 Z2 Z3 Z4 Z5 Z6 Z7 Z8)
        have Cf := C.free
        have Zf := Z.free
        clear C Z
        by_cases hsz : (s.size : Int) < 528 + P
        · go_wp2
          refine bodyPost_ret (v := .tuple #[.int .i64 0, crtV crt0, .int .i64 5]) (by simp [results, Try.results12, crtV, crt0, go_sem, Z0, Z1, Z2, Z3, Z4, Z5, Z6, Z7, Z8]) rfl ⟨congrArg Ending.returned ?_, (by repeat' (first | (with_reducible exact HB.out) | (with_reducible refine Below.setCell ?_ (by first | omega | (dsimp only; omega) | (simp; omega) | (simp; done)) _) | (with_reducible refine Below.alloc ?_ (by first | omega | (simp; omega) | (simp; done)) _) | (with_reducible refine Below.drew ?_) | (with_reducible exact Below.refl _ _)))⟩
          rw [← HV.out]
          unfold wholeW
          rw [if_pos HE.out, Hc.out, if_pos H4.out]
          rw [Hg.out, if_neg (by dsimp only; omega)]
        · have Hs := Lib.hid hsz
          go_wp2
          go_region
          go_wp2
          refine bodyPost_ret (v := .tuple #[.int .i64 528, .agg #[.int .i64 (x6 / 16 + x7 / 16 * 16), .int .i64 (0), .int .i64 P, .int .i64 (8192), .bool B, .bool F, .bool V, .bool false, .bool true], .int .i64 0]) (by simp [results, Try.results12, go_sem, Z0, Z1, Z2, Z3, Z4, Z5, Z6, Z7, Z8]) rfl ⟨congrArg Ending.returned ?_, (by repeat' (first | (with_reducible exact HB.out) | (with_reducible refine Below.setCell ?_ (by first | omega | (dsimp only; omega) | (simp; omega) | (simp; done)) _) | (with_reducible refine Below.alloc ?_ (by first | omega | (simp; omega) | (simp; done)) _) | (with_reducible refine Below.drew ?_) | (with_reducible exact Below.refl _ _)))⟩
          rw [← HV.out]
          unfold wholeW
          have hsz' := Hs.out
          rw [if_pos HE.out, Hc.out, if_pos H4.out]
          rw [Hg.out, if_pos (by dsimp only; omega)]
          rfl
      · have KT := HB2.out
        rw [show decide (x6 / 4 % 2 = 1) = false by simp [h4]] at KT
        have HT := Lib.hid KT
        have H4 := Lib.hid h4
        clear KT h4 HB2
        go_wp2_with fail
        ((with_reducible refine (HT.out _).mono ?_))
        rintro e w4 ⟨rfl, hB⟩
        replace HB := Lib.hid (HB.out.next hB)
        replace HC := Lib.hid (HC.out.next hB)
        replace HZ := Lib.hid (HZ.out.next hB)
        clear hB HT Cz C0 C1 C2 C3 C4 C5 C6 C7 C8 Cf Zz Z0 Z1 Z2 Z3 Z4 Z5 Z6 Z7 Z8 Zf
        have C := HC.out
        have Z := HZ.out
        unfold crt0 at Z
        (skip); have Cz := C.lt; have C0 := C.c0; have C1 := C.c1; have C2 := C.c2; have C3 := C.c3; have C4 := C.c4; have C5 := C.c5; have C6 := C.c6; have C7 := C.c7; have C8 := C.c8; (try dsimp only at C0 C1 C2 C3 C4 C5 C6 C7 C8); have Zz := Z.lt; have Z0 := Z.c0; have Z1 := Z.c1; have Z2 := Z.c2; have Z3 := Z.c3; have Z4 := Z.c4; have Z5 := Z.c5; have Z6 := Z.c6; have Z7 := Z.c7; have Z8 := Z.c8; (try dsimp only at Z0 Z1 Z2 Z3 Z4 Z5 Z6 Z7 Z8)
        have Cf := C.free
        have Zf := Z.free
        clear C Z
        by_cases hsz : (s.size : Int) < 16 + P
        · go_wp2
          refine bodyPost_ret (v := .tuple #[.int .i64 0, crtV crt0, .int .i64 5]) (by simp [results, Try.results12, crtV, crt0, go_sem, Z0, Z1, Z2, Z3, Z4, Z5, Z6, Z7, Z8]) rfl ⟨congrArg Ending.returned ?_, (by repeat' (first | (with_reducible exact HB.out) | (with_reducible refine Below.setCell ?_ (by first | omega | (dsimp only; omega) | (simp; omega) | (simp; done)) _) | (with_reducible refine Below.alloc ?_ (by first | omega | (simp; omega) | (simp; done)) _) | (with_reducible refine Below.drew ?_) | (with_reducible exact Below.refl _ _)))⟩
          rw [← HV.out]
          unfold wholeW
          rw [if_pos HE.out, Hc.out, if_neg H4.out]
          rw [Hg.out, if_neg (by dsimp only; omega)]
        · have Hs := Lib.hid hsz
          go_wp2
          go_region
          go_wp2
          refine bodyPost_ret (v := .tuple #[.int .i64 16, .agg #[.int .i64 (x6 / 16 + x7 / 16 * 16), .int .i64 (0), .int .i64 P, .int .i64 (8192), .bool B, .bool F, .bool V, .bool false, .bool true], .int .i64 0]) (by simp [results, Try.results12, go_sem, Z0, Z1, Z2, Z3, Z4, Z5, Z6, Z7, Z8]) rfl ⟨congrArg Ending.returned ?_, (by repeat' (first | (with_reducible exact HB.out) | (with_reducible refine Below.setCell ?_ (by first | omega | (dsimp only; omega) | (simp; omega) | (simp; done)) _) | (with_reducible refine Below.alloc ?_ (by first | omega | (simp; omega) | (simp; done)) _) | (with_reducible refine Below.drew ?_) | (with_reducible exact Below.refl _ _)))⟩
          rw [← HV.out]
          unfold wholeW
          have hsz' := Hs.out
          rw [if_pos HE.out, Hc.out, if_neg H4.out]
          rw [Hg.out, if_pos (by dsimp only; omega)]
          rfl
    · go_wp2
      refine bodyPost_ret (v := .tuple #[.int .i64 0, crtV crt0, .int .i64 E]) (by simp [results, Try.results12, crtV, crt0, go_sem, Z0, Z1, Z2, Z3, Z4, Z5, Z6, Z7, Z8]) rfl ⟨congrArg Ending.returned ?_, (by repeat' (first | (with_reducible exact HB.out) | (with_reducible refine Below.setCell ?_ (by first | omega | (dsimp only; omega) | (simp; omega) | (simp; done)) _) | (with_reducible refine Below.alloc ?_ (by first | omega | (simp; omega) | (simp; done)) _) | (with_reducible refine Below.drew ?_) | (with_reducible exact Below.refl _ _)))⟩
      rw [← HV.out]
      unfold wholeW
      rw [if_neg (by rw [HE.out]; exact hE0), HE.out]
  · have hK' : (K == 0) = false := by simpa using hK
    go_wp2_with fail
    ((with_reducible refine (HKC.out K false _ (by rw [if_neg hK]) (by simp [hK])).mono ?_))
    rintro e w3 ⟨rfl, hB⟩
    replace HC := Lib.hid ((HC.out.set_k K).next hB)
    replace HZ := Lib.hid ((HZ.out.other hbz 3 _).next hB)
    replace HB := Lib.hid ((HB.out.setCell (p := ⟨b, 3, none⟩) hw0 _).next hB)
    dsimp only at HC
    clear hB Cz C0 C1 C2 C3 C4 C5 C6 C7 C8 Cf
    have C := HC.out
    (skip); have Cz := C.lt; have C0 := C.c0; have C1 := C.c1; have C2 := C.c2; have C3 := C.c3; have C4 := C.c4; have C5 := C.c5; have C6 := C.c6; have C7 := C.c7; have C8 := C.c8; (try dsimp only at C0 C1 C2 C3 C4 C5 C6 C7 C8)
    have Cf := C.free
    clear C
    clear HKC
    have Z := HZ.out
    unfold crt0 at Z
    (skip); have Zz := Z.lt; have Z0 := Z.c0; have Z1 := Z.c1; have Z2 := Z.c2; have Z3 := Z.c3; have Z4 := Z.c4; have Z5 := Z.c5; have Z6 := Z.c6; have Z7 := Z.c7; have Z8 := Z.c8; (try dsimp only at Z0 Z1 Z2 Z3 Z4 Z5 Z6 Z7 Z8)
    have Zf := Z.free
    clear Z
    by_cases hE0 : E = 0
    · subst hE0
      have hc : crtOf x4 x5 x6 x7 0 0 = ⟨x6 / 16 + x7 / 16 * 16, 0, P, K, B, F, V, false, false⟩ := (HF.out HE.out K (by simp [hK])).trans (by simp [hK])
      have hgv : givN ⟨x6 / 16 + x7 / 16 * 16, 0, P, K, B, F, V, false, false⟩ = K := rfl
      have Hc := Lib.hid hc
      have Hg := Lib.hid hgv
      clear hc hgv
      by_cases h4 : x6 / 4 % 2 = 1
      · have KT := HB2.out
        rw [show decide (x6 / 4 % 2 = 1) = true by simp [h4]] at KT
        have HT := Lib.hid KT
        have H4 := Lib.hid h4
        clear KT h4 HB2
        go_wp2_with fail
        ((with_reducible refine (HT.out _).mono ?_))
        rintro e w4 ⟨rfl, hB⟩
        replace HB := Lib.hid (HB.out.next hB)
        replace HC := Lib.hid (HC.out.next hB)
        replace HZ := Lib.hid (HZ.out.next hB)
        clear hB HT Cz C0 C1 C2 C3 C4 C5 C6 C7 C8 Cf Zz Z0 Z1 Z2 Z3 Z4 Z5 Z6 Z7 Z8 Zf
        have C := HC.out
        have Z := HZ.out
        unfold crt0 at Z
        (skip); have Cz := C.lt; have C0 := C.c0; have C1 := C.c1; have C2 := C.c2; have C3 := C.c3; have C4 := C.c4; have C5 := C.c5; have C6 := C.c6; have C7 := C.c7; have C8 := C.c8; (try dsimp only at C0 C1 C2 C3 C4 C5 C6 C7 C8); have Zz := Z.lt; have Z0 := Z.c0; have Z1 := Z.c1; have Z2 := Z.c2; have Z3 := Z.c3; have Z4 := Z.c4; have Z5 := Z.c5; have Z6 := Z.c6; have Z7 := Z.c7; have Z8 := Z.c8; (try dsimp only at Z0 Z1 Z2 Z3 Z4 Z5 Z6 Z7 Z8)
        have Cf := C.free
        have Zf := Z.free
        clear C Z
        by_cases hsz : (s.size : Int) < 528 + (P + K)
        · go_wp2
          refine bodyPost_ret (v := .tuple #[.int .i64 0, crtV crt0, .int .i64 5]) (by simp [results, Try.results12, crtV, crt0, go_sem, Z0, Z1, Z2, Z3, Z4, Z5, Z6, Z7, Z8]) rfl ⟨congrArg Ending.returned ?_, (by repeat' (first | (with_reducible exact HB.out) | (with_reducible refine Below.setCell ?_ (by first | omega | (dsimp only; omega) | (simp; omega) | (simp; done)) _) | (with_reducible refine Below.alloc ?_ (by first | omega | (simp; omega) | (simp; done)) _) | (with_reducible refine Below.drew ?_) | (with_reducible exact Below.refl _ _)))⟩
          rw [← HV.out]
          unfold wholeW
          rw [if_pos HE.out, Hc.out, if_pos H4.out]
          rw [Hg.out, if_neg (by dsimp only; omega)]
        · have Hs := Lib.hid hsz
          go_wp2
          go_region
          go_wp2
          refine bodyPost_ret (v := .tuple #[.int .i64 528, .agg #[.int .i64 (x6 / 16 + x7 / 16 * 16), .int .i64 (0), .int .i64 P, .int .i64 (K), .bool B, .bool F, .bool V, .bool false, .bool false], .int .i64 0]) (by simp [results, Try.results12, go_sem, Z0, Z1, Z2, Z3, Z4, Z5, Z6, Z7, Z8]) rfl ⟨congrArg Ending.returned ?_, (by repeat' (first | (with_reducible exact HB.out) | (with_reducible refine Below.setCell ?_ (by first | omega | (dsimp only; omega) | (simp; omega) | (simp; done)) _) | (with_reducible refine Below.alloc ?_ (by first | omega | (simp; omega) | (simp; done)) _) | (with_reducible refine Below.drew ?_) | (with_reducible exact Below.refl _ _)))⟩
          rw [← HV.out]
          unfold wholeW
          have hsz' := Hs.out
          rw [if_pos HE.out, Hc.out, if_pos H4.out]
          rw [Hg.out, if_pos (by dsimp only; omega)]
          rfl
      · have KT := HB2.out
        rw [show decide (x6 / 4 % 2 = 1) = false by simp [h4]] at KT
        have HT := Lib.hid KT
        have H4 := Lib.hid h4
        clear KT h4 HB2
        go_wp2_with fail
        ((with_reducible refine (HT.out _).mono ?_))
        rintro e w4 ⟨rfl, hB⟩
        replace HB := Lib.hid (HB.out.next hB)
        replace HC := Lib.hid (HC.out.next hB)
        replace HZ := Lib.hid (HZ.out.next hB)
        clear hB HT Cz C0 C1 C2 C3 C4 C5 C6 C7 C8 Cf Zz Z0 Z1 Z2 Z3 Z4 Z5 Z6 Z7 Z8 Zf
        have C := HC.out
        have Z := HZ.out
        unfold crt0 at Z
        (skip); have Cz := C.lt; have C0 := C.c0; have C1 := C.c1; have C2 := C.c2; have C3 := C.c3; have C4 := C.c4; have C5 := C.c5; have C6 := C.c6; have C7 := C.c7; have C8 := C.c8; (try dsimp only at C0 C1 C2 C3 C4 C5 C6 C7 C8); have Zz := Z.lt; have Z0 := Z.c0; have Z1 := Z.c1; have Z2 := Z.c2; have Z3 := Z.c3; have Z4 := Z.c4; have Z5 := Z.c5; have Z6 := Z.c6; have Z7 := Z.c7; have Z8 := Z.c8; (try dsimp only at Z0 Z1 Z2 Z3 Z4 Z5 Z6 Z7 Z8)
        have Cf := C.free
        have Zf := Z.free
        clear C Z
        by_cases hsz : (s.size : Int) < 16 + (P + K)
        · go_wp2
          refine bodyPost_ret (v := .tuple #[.int .i64 0, crtV crt0, .int .i64 5]) (by simp [results, Try.results12, crtV, crt0, go_sem, Z0, Z1, Z2, Z3, Z4, Z5, Z6, Z7, Z8]) rfl ⟨congrArg Ending.returned ?_, (by repeat' (first | (with_reducible exact HB.out) | (with_reducible refine Below.setCell ?_ (by first | omega | (dsimp only; omega) | (simp; omega) | (simp; done)) _) | (with_reducible refine Below.alloc ?_ (by first | omega | (simp; omega) | (simp; done)) _) | (with_reducible refine Below.drew ?_) | (with_reducible exact Below.refl _ _)))⟩
          rw [← HV.out]
          unfold wholeW
          rw [if_pos HE.out, Hc.out, if_neg H4.out]
          rw [Hg.out, if_neg (by dsimp only; omega)]
        · have Hs := Lib.hid hsz
          go_wp2
          go_region
          go_wp2
          refine bodyPost_ret (v := .tuple #[.int .i64 16, .agg #[.int .i64 (x6 / 16 + x7 / 16 * 16), .int .i64 (0), .int .i64 P, .int .i64 (K), .bool B, .bool F, .bool V, .bool false, .bool false], .int .i64 0]) (by simp [results, Try.results12, go_sem, Z0, Z1, Z2, Z3, Z4, Z5, Z6, Z7, Z8]) rfl ⟨congrArg Ending.returned ?_, (by repeat' (first | (with_reducible exact HB.out) | (with_reducible refine Below.setCell ?_ (by first | omega | (dsimp only; omega) | (simp; omega) | (simp; done)) _) | (with_reducible refine Below.alloc ?_ (by first | omega | (simp; omega) | (simp; done)) _) | (with_reducible refine Below.drew ?_) | (with_reducible exact Below.refl _ _)))⟩
          rw [← HV.out]
          unfold wholeW
          have hsz' := Hs.out
          rw [if_pos HE.out, Hc.out, if_neg H4.out]
          rw [Hg.out, if_pos (by dsimp only; omega)]
          rfl
    · go_wp2
      refine bodyPost_ret (v := .tuple #[.int .i64 0, crtV crt0, .int .i64 E]) (by simp [results, Try.results12, crtV, crt0, go_sem, Z0, Z1, Z2, Z3, Z4, Z5, Z6, Z7, Z8]) rfl ⟨congrArg Ending.returned ?_, (by repeat' (first | (with_reducible exact HB.out) | (with_reducible refine Below.setCell ?_ (by first | omega | (dsimp only; omega) | (simp; omega) | (simp; done)) _) | (with_reducible refine Below.alloc ?_ (by first | omega | (simp; omega) | (simp; done)) _) | (with_reducible refine Below.drew ?_) | (with_reducible exact Below.refl _ _)))⟩
      rw [← HV.out]
      unfold wholeW
      rw [if_neg (by rw [HE.out]; exact hE0), HE.out]
end Go.Proofs.Ytmjadbljhnecbaa
