/-
  The law's awake. Over this seat's translation; no condition.
-/
import Derived.Test.YtaljenjnedijgaaHaw
import Derived.Deep.RegionWith
namespace Go.Proofs.Ytaljenjnedijgaa
open Go.RowKit

theorem wp_make_known {P : Program} (w : World) {o : Oper} {a : Act} {K : Act → World → Prop} {Q : Exit → Act → World → Prop} (t : TypeId) (l c : Operand)
    (ho : o.op = .makeSlice t l c) (v u : Value) (hl : a.eval l = v) (hc : a.eval c = u) {v' : Value} {w' : World} (hr : (Instr.makeSlice t v u).run P w = .ok v' w') (h : K (a.put o.dst v') w') : o.wp P a w K Q := by
  unfold Oper.wp execOp
  simp only [ho, Sem.run_bind, Sem.run_pure, hl, hc, hr, Result.andThen_ok]
  exact h
theorem wpList_make_known {P : Program} (w : World) {ops : Array Oper} {rest : List Oper} {o : Oper} {a : Act} {Q : Exit → Act → World → Prop} (hgd : o.guard = none) (t : TypeId) (l c : Operand)
    (ho : o.op = .makeSlice t l c) (v u : Value) (hl : a.eval l = v) (hc : a.eval c = u) {v' : Value} {w' : World} (hr : (Instr.makeSlice t v u).run P w = .ok v' w') (h : wpList P ops Q rest (a.put o.dst v') w') : wpList P ops Q (o :: rest) a w :=
  wpList_plain hgd fun _ hK => wp_make_known w t l c ho v u hl hc hr (hK _ _ h)
theorem leastS_le : leastS.size = 16 := by rfl
theorem zl_size (n : Nat) : (leastS ++ zS n).size = 16 + n := by rw [ByteArray.size_append, zS_size, leastS_le]
/-- What holds behind the last example. -/
def AwkCut (w : World) (t u : Value) (wx : World) : Prop := ∃ b, t = .pointer (some ⟨b, 0, none⟩) ∧ u = .int .i64 0 ∧ CX wx b lst ∧ Below w.heap.size w wx
set_option maxRecDepth 100000 in
set_option maxHeartbeats 4000000 in
theorem hawake_ct (w : World) : Calls Try.prog 7 #[] w fun e w' => e = .returned (.bool true) ∧ Below w.heap.size w w' := by
  have KL := fun wr => least_ct wr
  have KM := fun wr => made_least wr
  have K1 := fun wr => parse_err (leastS.extract 0 15) wr (by decide) 4 w_cut (by decide)
  have K2 := fun wr => parse_err (leastS.extract 0 6 ++ ⟨#[80]⟩ ++ leastS.extract 7 16) wr (by decide) 6 w_map (by decide)
  have K3 := fun wr => parse_err (leastS ++ zS 24575) wr (by rw [zl_size]; decide) 5 w_less (by decide)
  have K4 := fun wr => parse_ok (leastS ++ zS 24576) wr (by rw [zl_size]; decide) lst w_full.2 w_full.1
  have M3 : ∀ W : World, (Instr.makeSlice 30 (.int .i64 24575) (.int .i64 24575)).run Try.prog W = .ok (.slice (some ⟨W.heap.size, 0, none⟩) 24575 24575) (W.alloc (zObj 24575)) := fun W => make_zeros 24575 (by decide) W
  have M4 : ∀ W : World, (Instr.makeSlice 30 (.int .i64 24576) (.int .i64 24576)).run Try.prog W = .ok (.slice (some ⟨W.heap.size, 0, none⟩) 24576 24576) (W.alloc (zObj 24576)) := fun W => make_zeros 24576 (by decide) W
  have CZ3 := fun W => conv_zeros 24575 W
  have CZ4 := fun W => conv_zeros 24576 W
  have z3 := zS_size 24575
  have z4 := zS_size 24576
  have l16 := leastS_le
  obtain ⟨S3, h3⟩ : ∃ S, zS 24575 = S := ⟨_, rfl⟩
  obtain ⟨S4, h4⟩ : ∃ S, zS 24576 = S := ⟨_, rfl⟩
  obtain ⟨L, hL⟩ : ∃ S, leastS = S := ⟨_, rfl⟩
  rw [h3] at CZ3 z3
  rw [h4] at CZ4 z4
  rw [hL, h3] at K3
  rw [hL, h4] at K4
  rw [hL] at K1 K2 KM l16
  clear h3 h4 hL
  unfold crtV lst at KM K4
  unfold crtV crt0 at K1 K2 K3
  unfold crtV at KL
  go_enter Try.func7, Try.ntmps7
  go_wp2_with fail
  ((with_reducible refine (KL _).mono ?_))
  rintro e w1 ⟨rfl, hB⟩
  have B := hB
  clear hB
  go_wp2_with fail
  ((with_reducible refine (KM _).mono ?_))
  rintro e w2 ⟨rfl, hB⟩
  replace B := B.next hB
  clear hB
  have HB := Lib.hid B
  clear B
  go_wp2_with fail
  ((with_reducible refine (K1 _).mono ?_))
  rintro e w3 ⟨rfl, hB⟩
  replace HB := Lib.hid (HB.out.next hB)
  clear hB
  have HM3 := Lib.hid M3
  have HM4 := Lib.hid M4
  clear M3 M4
  go_upto_region 5 with fail
  have B3 : Below w.heap.size w (w3.alloc (.cells #[.int .i64 0, .int .i64 0, .int .i64 0, .int .i64 0, .bool false, .bool false, .bool false, .bool false, .bool false] 23)) := HB.out.alloc HB.out.size _
  generalize w3.alloc (.cells #[.int .i64 0, .int .i64 0, .int .i64 0, .int .i64 0, .bool false, .bool false, .bool false, .bool false, .bool false] 23) = wa at B3 ⊢
  replace HB := Lib.hid B3
  clear B3
  go_cut [6] (fun t wx => t = .int .i64 6 ∧ Below w.heap.size w wx)
  case first =>
    clear K1 K3 K4 HM3 HM4 CZ3 CZ4 KL KM
    go_region_with (go_at_call 8; (with_reducible refine (K2 _).mono ?_); rintro e w4 ⟨rfl, hB⟩; first | (have C := (CX.new wa crt0).drew.next hB; have HC := Lib.hid C; unfold crt0 at C; have Cz := C.lt; have C0 := C.c0; have C1 := C.c1; have C2 := C.c2; have C3 := C.c3; have C4 := C.c4; have C5 := C.c5; have C6 := C.c6; have C7 := C.c7; have C8 := C.c8; dsimp only at C0 C1 C2 C3 C4 C5 C6 C7 C8; have Cf := C.free; clear C) | (have C := (CX.new wa.drew crt0).next hB; have HC := Lib.hid C; unfold crt0 at C; have Cz := C.lt; have C0 := C.c0; have C1 := C.c1; have C2 := C.c2; have C3 := C.c3; have C4 := C.c4; have C5 := C.c5; have C6 := C.c6; have C7 := C.c7; have C8 := C.c8; dsimp only at C0 C1 C2 C3 C4 C5 C6 C7 C8; have Cf := C.free; clear C) | skip)
    all_goals
      have hwa := HB.out.size
      have BX : Below w.heap.size w w4 := by first | exact (HB.out.alloc HB.out.size _).drew.next hB | exact HB.out.drew.next hB
      have HBX := Lib.hid BX
      have hw4 := BX.size
      clear BX
      go_wp2
      go_meet
      exact ⟨rfl, (by repeat' (first | (with_reducible exact HBX.out) | (with_reducible refine Below.setCell ?_ (by first | omega | (dsimp only; omega) | (simp; omega) | (simp; done)) _) | (with_reducible refine Below.alloc ?_ (by first | omega | (simp; omega) | (simp; done)) _) | (with_reducible refine Below.drew ?_) | (with_reducible exact Below.refl _ _)))⟩
  case rest =>
  obtain ⟨rfl, B⟩ := hcut
  replace HB := Lib.hid B
  clear B
  go_upto_region 6 with fail
  go_cut [8] (fun t wx => t = .int .i64 5 ∧ Below w.heap.size w wx)
  case first =>
    go_wp2_with (refine wpList_make_known _ rfl _ _ _ rfl _ _ rfl rfl (HM3.out _) ?_)
    ((with_reducible refine (K3 _).mono ?_))
    rintro e w4 ⟨rfl, hB⟩
    replace HB := Lib.hid ((HB.out.alloc HB.out.size _).next hB)
    clear hB
    go_wp2
    go_meet
    exact ⟨rfl, HB.out.alloc HB.out.size _⟩
  case rest =>
  obtain ⟨rfl, B⟩ := hcut
  replace HB := Lib.hid B
  clear B
  go_upto_region 7 with fail
  go_cut [9, 10] (fun t u wx => AwkCut w t u wx)
  case first =>
    go_wp2_with (refine wpList_make_known _ rfl _ _ _ rfl _ _ rfl rfl (HM4.out _) ?_)
    ((with_reducible refine (K4 _).mono ?_))
    rintro e w4 ⟨rfl, hB⟩
    replace HB := Lib.hid ((HB.out.alloc HB.out.size _).next hB)
    clear hB
    have HC := Lib.hid (CX.new w4 lst)
    go_wp2
    go_meet
    exact ⟨_, rfl, rfl, HC.out, HB.out.alloc HB.out.size _⟩
  case rest =>
  obtain ⟨b, rfl, rfl, C, B⟩ := hcut
  unfold lst at C
  (skip); have Cz := C.lt; have C0 := C.c0; have C1 := C.c1; have C2 := C.c2; have C3 := C.c3; have C4 := C.c4; have C5 := C.c5; have C6 := C.c6; have C7 := C.c7; have C8 := C.c8; (try dsimp only at C0 C1 C2 C3 C4 C5 C6 C7 C8)
  have r0 := cell_regrown C0
  have r1 := cell_regrown C1
  have r2 := cell_regrown C2
  have r3 := cell_regrown C3
  have r4 := cell_regrown C4
  have r5 := cell_regrown C5
  have r6 := cell_regrown C6
  have r7 := cell_regrown C7
  have r8 := cell_regrown C8
  replace HB := Lib.hid B
  clear C B HM3 HM4 K1 K2 K3 K4 KM CZ3 CZ4 C0 C1 C2 C3 C4 C5 C6 C7 C8 Cz
  go_wp2_with fail
  (refine wp_region_quiet_below (by kernel_rfl) (by kernel_rfl) ?_); (repeat (go_big_quiet_step ((go_at_call 10; (with_reducible exact Calls.regrown_of (KL _)))))); (refine wpQuiet_nil ?_); intro _ hw'; obtain ⟨⟨dq, osq⟩, hw''⟩ := hw'; (subst hw''); have hq := below_regrown wc dq osq; generalize Go.Sort.grow (redrawn wc dq) osq = wq at hq ⊢
  go_wp2
  go_ret
  exact ⟨rfl, HB.out.next hq⟩
end Go.Proofs.Ytaljenjnedijgaa
