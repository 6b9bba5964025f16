/-
  Package header's cart: what a header tells. Over this seat's translation; octets are from 0 to 255.
-/
import Derived.Test.YtaljenjnedijgaaHcs
namespace Go.Proofs.Ytaljenjnedijgaa
open Go.RowKit

set_option maxRecDepth 100000 in
set_option maxHeartbeats 4000000 in
theorem hcart_ct (x : Nat → Int) (w : World) (hx : ∀ i, 0 ≤ x i ∧ x i < 256) : Calls Try.prog 16 #[hdV x] w fun e w' => e = .returned (crtV (crtOf (x 4) (x 5) (x 6) (x 7) (x 8) (x 9))) ∧ Below w.heap.size w w' := by
  obtain ⟨a4, b4⟩ := hx 4
  obtain ⟨a5, b5⟩ := hx 5
  obtain ⟨a6, b6⟩ := hx 6
  obtain ⟨a7, b7⟩ := hx 7
  obtain ⟨a8, b8⟩ := hx 8
  obtain ⟨a9, b9⟩ := hx 9
  have E1 := hand15 (x 8) a8 b8
  have E2 := hand240 (x 7) a7 b7
  have E3 := hand15 (x 9) a9 b9
  have E4 := hand2 (x 6) a6 b6
  have E5 := hand8 (x 6) a6 b6
  have E6 := hand1 (x 6) a6 b6
  have O1 : bits .or .i64 (x 8 % 16 * 256) (x 7 / 16 * 16) = x 8 % 16 * 256 + x 7 / 16 * 16 := hor_i64z 8 256 _ _ (by omega) (by omega) (by decide) (by omega) (by omega) (by omega)
  have O2 : bits .or .i64 (x 8 % 16 * 256 + x 7 / 16 * 16) (x 6 / 16) = x 8 % 16 * 256 + x 7 / 16 * 16 + x 6 / 16 := hor_i64z 4 16 _ _ (by omega) (by omega) (by decide) (by omega) (by omega) (by omega)
  have T1 : (x 6 / 2 % 2 * 2 != 0) = decide (x 6 / 2 % 2 = 1) := by rw [Bool.eq_iff_iff]; simp; omega
  have T2 : (x 6 / 8 % 2 * 8 != 0) = decide (x 6 / 8 % 2 = 1) := by rw [Bool.eq_iff_iff]; simp; omega
  have T3 : (x 6 % 2 != 0) = decide (x 6 % 2 = 1) := by rw [Bool.eq_iff_iff]; simp; omega
  have K1 : ∀ wr, Calls Try.prog 21 #[.int .u8 (x 4), .int .u8 (x 9 % 16), .int .i64 16384] wr fun e w' => e = .returned (.int .i64 (amt (x 4) (x 9 % 16) 16384)) ∧ Below wr.heap.size wr w' := fun wr => (hsize_ct (x 4) (x 9 % 16) 16384 wr a4 b4 (by omega) (by omega) (by omega) (by omega)).mono fun _ _ ⟨h, e⟩ => ⟨h, e ▸ Below.refl _ _⟩
  have K2 : ∀ wr, Calls Try.prog 21 #[.int .u8 (x 5), .int .u8 (x 9 / 16), .int .i64 8192] wr fun e w' => e = .returned (.int .i64 (amt (x 5) (x 9 / 16) 8192)) ∧ Below wr.heap.size wr w' := fun wr => (hsize_ct (x 5) (x 9 / 16) 8192 wr a5 b5 (by omega) (by omega) (by omega) (by omega)).mono fun _ _ ⟨h, e⟩ => ⟨h, e ▸ Below.refl _ _⟩
  have K3 := fun wr => hsecond_ct x wr a7 b7
  unfold hdV at K3
  obtain ⟨p, hp⟩ : ∃ p, amt (x 4) (x 9 % 16) 16384 = p := ⟨_, rfl⟩
  obtain ⟨k, hk⟩ : ∃ k, amt (x 5) (x 9 / 16) 8192 = k := ⟨_, rfl⟩
  obtain ⟨sc, hsc⟩ : ∃ b, secK (x 7) = b := ⟨_, rfl⟩
  have hgoal : crtV (crtOf (x 4) (x 5) (x 6) (x 7) (x 8) (x 9)) = .agg #[.int .i64 (x 8 % 16 * 256 + x 7 / 16 * 16 + x 6 / 16), .int .i64 (x 8 / 16), .int .i64 p, .int .i64 (if k = 0 then 8192 else k), .bool (x 6 / 2 % 2 * 2 != 0), .bool (x 6 / 8 % 2 * 8 != 0), .bool (x 6 % 2 != 0), .bool sc, .bool (decide (k = 0))] := by
    unfold crtV crtOf
    simp only [hp, hk, hsc, T1, T2, T3]
  rw [hp] at K1
  rw [hk] at K2
  rw [hsc] at K3
  rw [hgoal]
  clear hp hk hsc hgoal T1 T2 T3 a4 b4 a5 b5 hx
  unfold hdV
  go_enter Try.func16, Try.ntmps16
  go_upto_region 1 with fail
  have X : HD ((w.alloc (.cells #[.int .u8 (x 0), .int .u8 (x 1), .int .u8 (x 2), .int .u8 (x 3), .int .u8 (x 4), .int .u8 (x 5), .int .u8 (x 6), .int .u8 (x 7), .int .u8 (x 8), .int .u8 (x 9), .int .u8 (x 10), .int .u8 (x 11), .int .u8 (x 12), .int .u8 (x 13), .int .u8 (x 14), .int .u8 (x 15)] 45)).alloc (.cells #[.int .i64 0, .int .i64 0, .int .i64 0, .int .i64 0, .bool false, .bool false, .bool false, .bool false, .bool false] 23)) w.heap.size x := (HD.new w x).alloc _
  have Z : CX ((w.alloc (.cells #[.int .u8 (x 0), .int .u8 (x 1), .int .u8 (x 2), .int .u8 (x 3), .int .u8 (x 4), .int .u8 (x 5), .int .u8 (x 6), .int .u8 (x 7), .int .u8 (x 8), .int .u8 (x 9), .int .u8 (x 10), .int .u8 (x 11), .int .u8 (x 12), .int .u8 (x 13), .int .u8 (x 14), .int .u8 (x 15)] 45)).alloc (.cells #[.int .i64 0, .int .i64 0, .int .i64 0, .int .i64 0, .bool false, .bool false, .bool false, .bool false, .bool false] 23)) (w.heap.size + 1) crt0 := CX.new1 w _ crt0
  have B : Below w.heap.size w ((w.alloc (.cells #[.int .u8 (x 0), .int .u8 (x 1), .int .u8 (x 2), .int .u8 (x 3), .int .u8 (x 4), .int .u8 (x 5), .int .u8 (x 6), .int .u8 (x 7), .int .u8 (x 8), .int .u8 (x 9), .int .u8 (x 10), .int .u8 (x 11), .int .u8 (x 12), .int .u8 (x 13), .int .u8 (x 14), .int .u8 (x 15)] 45)).alloc (.cells #[.int .i64 0, .int .i64 0, .int .i64 0, .int .i64 0, .bool false, .bool false, .bool false, .bool false, .bool false] 23)) := (by repeat' (first | exact Below.refl _ _ | (refine Below.setCell ?_ (by first | (simp; done) | (simp; omega) | omega) _) | (refine Below.drew ?_) | (refine Below.drewN ?_ _) | (refine Below.alloc ?_ (by first | (simp; done) | (simp; omega) | omega) _)))
  generalize (w.alloc (.cells #[.int .u8 (x 0), .int .u8 (x 1), .int .u8 (x 2), .int .u8 (x 3), .int .u8 (x 4), .int .u8 (x 5), .int .u8 (x 6), .int .u8 (x 7), .int .u8 (x 8), .int .u8 (x 9), .int .u8 (x 10), .int .u8 (x 11), .int .u8 (x 12), .int .u8 (x 13), .int .u8 (x 14), .int .u8 (x 15)] 45)).alloc (.cells #[.int .i64 0, .int .i64 0, .int .i64 0, .int .i64 0, .bool false, .bool false, .bool false, .bool false, .bool false] 23) = wc at X Z B ⊢
  go_cut [3] (fun t wx => CartCut w (w.heap.size + 1) ⟨x 8 % 16 * 256 + x 7 / 16 * 16 + x 6 / 16, x 8 / 16, p, k, x 6 / 2 % 2 * 2 != 0, x 6 / 8 % 2 * 8 != 0, x 6 % 2 != 0, sc, false⟩ t wx)
  case first =>
    have HX := Lib.hid X
    have HZ := Lib.hid Z
    have HB := Lib.hid B
    clear X Z B
    go_wp2_with fail
    refine wp_region_box1 46 3 23 (.cells #[.int .i64 0, .int .i64 0, .int .i64 0, .int .i64 0, .bool false, .bool false, .bool false, .bool false, .bool false] 23) (by kernel_rfl) (by kernel_rfl) (by kernel_rfl) (by rfl) run_alloc_cart fun w2 hw2 => ?_
    have X := HX.out.next hw2
    (skip); have Xz := X.lt; have X0 := X.at 0 (by decide); have X1 := X.at 1 (by decide); have X2 := X.at 2 (by decide); have X3 := X.at 3 (by decide); have X4 := X.at 4 (by decide); have X5 := X.at 5 (by decide); have X6 := X.at 6 (by decide); have X7 := X.at 7 (by decide); have X8 := X.at 8 (by decide); have X9 := X.at 9 (by decide); have X10 := X.at 10 (by decide); have X11 := X.at 11 (by decide); have X12 := X.at 12 (by decide); have X13 := X.at 13 (by decide); have X14 := X.at 14 (by decide); have X15 := X.at 15 (by decide); have Xf := X.free
    clear X
    have q0 := cell_regrown X0
    have q1 := cell_regrown X1
    have q2 := cell_regrown X2
    have q3 := cell_regrown X3
    have q4 := cell_regrown X4
    have q5 := cell_regrown X5
    have q6 := cell_regrown X6
    have q7 := cell_regrown X7
    have q8 := cell_regrown X8
    have q9 := cell_regrown X9
    have q10 := cell_regrown X10
    have q11 := cell_regrown X11
    have q12 := cell_regrown X12
    have q13 := cell_regrown X13
    have q14 := cell_regrown X14
    have q15 := cell_regrown X15
    (simp only [List.take_succ_cons, List.take_zero, List.drop_succ_cons, List.drop_zero])
    (repeat (go_big_quiet_step ((first | (go_at_call 21; first | (with_reducible exact Calls.regrown_of (K1 _)) | (with_reducible exact Calls.regrown_of (K2 _))) | (go_at_call 20; (with_reducible exact Calls.regrown_of (K3 _)))))))
    (refine wpQuiet_nil ?_)
    intro b w' hB hb0 hb1 hO
    have C := CX.of_box hO
    have hzz := HZ.out.lt
    have hbz : b ≠ w.heap.size + 1 := by omega
    have Z := HZ.out.next hB
    have B := HB.out.next hB
    have hw0 : w.heap.size ≤ b := by omega
    have hlt : w.heap.size + 1 < b := by omega
    clear hO HX HZ HB hB hb0 q0 q1 q2 q3 q4 q5 q6 q7 q8 q9 q10 q11 q12 q13 q14 q15 K1 K2 K3 E1 E2 E3 E4 E5 E6 O1 O2
    have HC := Lib.hid C
    have HZ := Lib.hid Z
    unfold crt0 at C
    (skip); have Cz := C.lt; have C0 := C.c0; have C1 := C.c1; have C2 := C.c2; have C3 := C.c3; have C4 := C.c4; have C5 := C.c5; have C6 := C.c6; have C7 := C.c7; have C8 := C.c8; (try dsimp only at C0 C1 C2 C3 C4 C5 C6 C7 C8)
    have Cf := C.free
    clear C Z
    simp only [Act.put, ptrTo, List.setIfInBounds_toArray, List.set_cons_succ, List.set_cons_zero]
    have HW1 := Lib.hid (below_set9 B hw0 ⟨x 8 % 16 * 256 + x 7 / 16 * 16 + x 6 / 16, x 8 / 16, p, k, x 6 / 2 % 2 * 2 != 0, x 6 / 8 % 2 * 8 != 0, x 6 % 2 != 0, sc, false⟩)
    clear B
    go_wp2
    go_meet
    exact ⟨b, rfl, hlt, HC.out.set ⟨x 8 % 16 * 256 + x 7 / 16 * 16 + x 6 / 16, x 8 / 16, p, k, x 6 / 2 % 2 * 2 != 0, x 6 / 8 % 2 * 8 != 0, x 6 % 2 != 0, sc, false⟩, HZ.out.others hbz ⟨x 8 % 16 * 256 + x 7 / 16 * 16 + x 6 / 16, x 8 / 16, p, k, x 6 / 2 % 2 * 2 != 0, x 6 / 8 % 2 * 8 != 0, x 6 % 2 != 0, sc, false⟩, HW1.out⟩
  case rest =>
  obtain ⟨b, rfl, hlt, C, Z, B⟩ := hcut
  have hbz : b ≠ w.heap.size + 1 := by omega
  have hw0 : w.heap.size ≤ b := by omega
  unfold crt0 at Z
  clear K1 K2 K3 E1 E2 E3 E4 E5 E6 O1 O2
  (skip); have Cz := C.lt; have C0 := C.c0; have C1 := C.c1; have C2 := C.c2; have C3 := C.c3; have C4 := C.c4; have C5 := C.c5; have C6 := C.c6; have C7 := C.c7; have C8 := C.c8; (try dsimp only at C0 C1 C2 C3 C4 C5 C6 C7 C8); have Zz := Z.lt; have Z0 := Z.c0; have Z1 := Z.c1; have Z2 := Z.c2; have Z3 := Z.c3; have Z4 := Z.c4; have Z5 := Z.c5; have Z6 := Z.c6; have Z7 := Z.c7; have Z8 := Z.c8; (try dsimp only at Z0 Z1 Z2 Z3 Z4 Z5 Z6 Z7 Z8)
  have Cf := C.free
  have Zf := Z.free
  have HB := Lib.hid B
  clear C Z B
  by_cases hk0 : k = 0
  · subst hk0
    go_wp2
    refine bodyPost_ret (v := .agg #[.int .i64 (x 8 % 16 * 256 + x 7 / 16 * 16 + x 6 / 16), .int .i64 (x 8 / 16), .int .i64 p, .int .i64 8192, .bool (x 6 / 2 % 2 * 2 != 0), .bool (x 6 / 8 % 2 * 8 != 0), .bool (x 6 % 2 != 0), .bool sc, .bool true]) (by simp [results, Try.results16, go_sem, Z0, Z1, Z2, Z3, Z4, Z5, Z6, Z7, Z8]) rfl ⟨rfl, ?_⟩
    have hW2 := (HB.out.setCell (p := ⟨b, 3, none⟩) hw0 (.int .i64 8192)).setCell (p := ⟨b, 8, none⟩) hw0 (.bool true)
    exact below_set9 hW2 (Nat.le_succ _) ⟨x 8 % 16 * 256 + x 7 / 16 * 16 + x 6 / 16, x 8 / 16, p, 8192, x 6 / 2 % 2 * 2 != 0, x 6 / 8 % 2 * 8 != 0, x 6 % 2 != 0, sc, true⟩
  · go_wp2
    refine bodyPost_ret (v := .agg #[.int .i64 (x 8 % 16 * 256 + x 7 / 16 * 16 + x 6 / 16), .int .i64 (x 8 / 16), .int .i64 p, .int .i64 k, .bool (x 6 / 2 % 2 * 2 != 0), .bool (x 6 / 8 % 2 * 8 != 0), .bool (x 6 % 2 != 0), .bool sc, .bool false]) (by simp [results, Try.results16, go_sem, Z0, Z1, Z2, Z3, Z4, Z5, Z6, Z7, Z8]) rfl ⟨by simp, ?_⟩
    exact below_set9 HB.out (Nat.le_succ _) ⟨x 8 % 16 * 256 + x 7 / 16 * 16 + x 6 / 16, x 8 / 16, p, k, x 6 / 2 % 2 * 2 != 0, x 6 / 8 % 2 * 8 != 0, x 6 % 2 != 0, sc, false⟩
end Go.Proofs.Ytaljenjnedijgaa
