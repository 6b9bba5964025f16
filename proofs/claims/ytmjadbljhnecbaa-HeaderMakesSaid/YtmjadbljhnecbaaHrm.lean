/-
  The document's Make, of what may be; least; the law's Few and zeros. Over this seat's translation.
-/
import Derived.Test.YtmjadbljhnecbaaHmk
import Derived.Laws.MakeOwn
namespace Go.Proofs.Ytmjadbljhnecbaa
open Go.RowKit

theorem conv_new16 (W : World) (a4 a5 a6 a7 a8 : Int) : (convert 42 9 (.slice (some ⟨W.heap.size, 0, none⟩) 16 16)).run Try.prog (W.alloc (.cells #[.int .u8 78, .int .u8 69, .int .u8 83, .int .u8 26, .int .u8 a4, .int .u8 a5, .int .u8 a6, .int .u8 a7, .int .u8 a8, .int .u8 0, .int .u8 0, .int .u8 0, .int .u8 0, .int .u8 0, .int .u8 0, .int .u8 0] 5)) = .ok (.string (strOfNums [78, 69, 83, 26, a4, a5, a6, a7, a8, 0, 0, 0, 0, 0, 0, 0])) (W.alloc (.cells #[.int .u8 78, .int .u8 69, .int .u8 83, .int .u8 26, .int .u8 a4, .int .u8 a5, .int .u8 a6, .int .u8 a7, .int .u8 a8, .int .u8 0, .int .u8 0, .int .u8 0, .int .u8 0, .int .u8 0, .int .u8 0, .int .u8 0] 5)) :=
  run_convert_bytes_arg (P := Try.prog) _ 42 5 Try.underlying42 Try.underlying5 W.heap.size 0 16 16 [78, 69, 83, 26, a4, a5, a6, a7, a8, 0, 0, 0, 0, 0, 0, 0] rfl (fun i hi => by
    rw [Nat.zero_add, Lib.cell_of_heap (World.alloc_heap_new W _)]
    match i, hi with
    | 0, _ | 1, _ | 2, _ | 3, _ | 4, _ | 5, _ | 6, _ | 7, _ | 8, _ | 9, _ | 10, _ | 11, _ | 12, _ | 13, _ | 14, _ | 15, _ => rfl
    | n + 16, h => exact absurd h (by omega)) _ Try.underlying9
set_option maxRecDepth 100000 in
set_option maxHeartbeats 4000000 in
theorem rmake_yes (c : Crt) (w : World) (h : chkN c = 0) : Calls Try.prog 18 #[crtV c] w fun e w' => e = .returned (.string (mkS c)) ∧ Below w.heap.size w w' := by
  obtain ⟨hm, hp, hk, ho, s0, s1, hts⟩ := chkN_zero.1 h
  have hp' := prgOk_iff.1 hp
  have hm' := mapOk_iff.1 hm
  have hk' := chrOk_iff.1 hk
  have p0 : 0 ≤ c.p := by omega
  have p1 : c.p ≤ 524288 := by omega
  have m0 : 0 ≤ c.m := by omega
  have m1 : c.m ≤ 7 := by omega
  have k0 : 0 ≤ c.k := by omega
  have k1 : c.k ≤ 262144 := by omega
  have hS : mkS c = strOfNums [78, 69, 83, 26, c.p / 16384, givN c / 8192, c.m * 16 + V1 c.v + B2 c.b + F8 c.f, F8 c.t, c.s * 16, 0, 0, 0, 0, 0, 0, 0] := rfl
  rw [hS]
  clear h hp hk hm ho hp' hm' hk' hS
  have v0 : 0 ≤ V1 c.v ∧ V1 c.v ≤ 1 := by unfold V1; split <;> omega
  have b0 : 0 ≤ B2 c.b ∧ B2 c.b ≤ 2 := by unfold B2; split <;> omega
  have f0 : 0 ≤ F8 c.f ∧ F8 c.f ≤ 8 := by unfold F8; split <;> omega
  have t0 : 0 ≤ F8 c.t ∧ F8 c.t ≤ 8 := by unfold F8; split <;> omega
  have HV : ∀ z, Hid (c.v = z → V1 c.v = V1 z) := fun z => Lib.hid (fun h => by rw [h])
  have HG : Hid (∀ z, c.o = z → givN c = if z = true then 0 else c.k) := Lib.hid (fun z h => by unfold givN; rw [h])
  have HT := Lib.hid hts
  have g0 : 0 ≤ givN c ∧ givN c ≤ 262144 := by unfold givN; split <;> omega
  obtain ⟨g, hg⟩ : ∃ g, givN c = g := ⟨_, rfl⟩
  rw [hg] at HG g0 ⊢
  have hcv := fun W => conv_new16 W (c.p / 16384) (g / 8192) (c.m * 16 + V1 c.v + B2 c.b + F8 c.f) (F8 c.t) (c.s * 16)
  have HCV := Lib.hid hcv
  clear hcv hts hg HV
  unfold crtV
  go_enter Try.func18, Try.ntmps18
  have em : c.m % 16 = c.m := by omega
  have HX := Lib.hid (CX.new w c)
  have B0 : Below w.heap.size w (w.alloc (.cells #[.int .i64 c.m, .int .i64 c.s, .int .i64 c.p, .int .i64 c.k, .bool c.b, .bool c.f, .bool c.v, .bool c.t, .bool c.o] 26)) := (by repeat' (first | exact Below.refl _ _ | (refine Below.setCell ?_ (by first | (simp; done) | (simp; omega) | omega) _) | (refine Below.drew ?_) | (refine Below.drewN ?_ _) | (refine Below.alloc ?_ (by first | (simp; done) | (simp; omega) | omega) _)))
  go_upto_if 12 with fail
  generalize w.alloc (.cells #[.int .i64 c.m, .int .i64 c.s, .int .i64 c.p, .int .i64 c.k, .bool c.b, .bool c.f, .bool c.v, .bool c.t, .bool c.o] 26) = wa at HX B0 ⊢
  have HB := Lib.hid B0
  clear B0
  have X := HX.out
  (skip); have Xz := X.lt; have X0 := X.c0; have X1 := X.c1; have X2 := X.c2; have X3 := X.c3; have X4 := X.c4; have X5 := X.c5; have X6 := X.c6; have X7 := X.c7; have X8 := X.c8; (try dsimp only at X0 X1 X2 X3 X4 X5 X6 X7 X8)
  clear X
  go_cut [3] (fun t wx => t = .int .i64 (c.m * 16 + V1 c.v) ∧ CX wx w.heap.size c ∧ Below w.heap.size w wx)
  case first =>
    go_wp2
    all_goals
      have HV : Hid (c.v = true) ∨ Hid (c.v = false) := by first | (exact .inl (Lib.hid (by assumption))) | (exact .inr (Lib.hid (by assumption)))
      go_meet
      exact ⟨(by rcases HV with HV | HV <;> have hv := HV.out <;> simp_all [V1]), HX.out, HB.out⟩
  case rest =>
  obtain ⟨rfl, X, B⟩ := hcut
  have HX := Lib.hid X
  have HB := Lib.hid B
  clear X B Xz X0 X1 X2 X3 X4 X5 X6 X7 X8
  have X := HX.out
  (skip); have Xz := X.lt; have X0 := X.c0; have X1 := X.c1; have X2 := X.c2; have X3 := X.c3; have X4 := X.c4; have X5 := X.c5; have X6 := X.c6; have X7 := X.c7; have X8 := X.c8; (try dsimp only at X0 X1 X2 X3 X4 X5 X6 X7 X8)
  clear X
  go_upto_if 16 with fail
  go_cut [3] (fun t wx => t = .int .i64 (c.m * 16 + V1 c.v + B2 c.b) ∧ CX wx w.heap.size c ∧ Below w.heap.size w wx)
  case first =>
    go_wp2
    all_goals
      have HV : Hid (c.b = true) ∨ Hid (c.b = false) := by first | (exact .inl (Lib.hid (by assumption))) | (exact .inr (Lib.hid (by assumption)))
      go_meet
      exact ⟨(by rcases HV with HV | HV <;> have hv := HV.out <;> simp_all [B2]), HX.out, HB.out⟩
  case rest =>
  obtain ⟨rfl, X, B⟩ := hcut
  have HX := Lib.hid X
  have HB := Lib.hid B
  clear X B Xz X0 X1 X2 X3 X4 X5 X6 X7 X8
  have X := HX.out
  (skip); have Xz := X.lt; have X0 := X.c0; have X1 := X.c1; have X2 := X.c2; have X3 := X.c3; have X4 := X.c4; have X5 := X.c5; have X6 := X.c6; have X7 := X.c7; have X8 := X.c8; (try dsimp only at X0 X1 X2 X3 X4 X5 X6 X7 X8)
  clear X
  go_upto_if 20 with fail
  go_cut [3] (fun t wx => t = .int .i64 (c.m * 16 + V1 c.v + B2 c.b + F8 c.f) ∧ CX wx w.heap.size c ∧ Below w.heap.size w wx)
  case first =>
    go_wp2
    all_goals
      have HV : Hid (c.f = true) ∨ Hid (c.f = false) := by first | (exact .inl (Lib.hid (by assumption))) | (exact .inr (Lib.hid (by assumption)))
      go_meet
      exact ⟨(by rcases HV with HV | HV <;> have hv := HV.out <;> simp_all [F8]), HX.out, HB.out⟩
  case rest =>
  obtain ⟨rfl, X, B⟩ := hcut
  have HX := Lib.hid X
  have HB := Lib.hid B
  clear X B Xz X0 X1 X2 X3 X4 X5 X6 X7 X8
  have X := HX.out
  (skip); have Xz := X.lt; have X0 := X.c0; have X1 := X.c1; have X2 := X.c2; have X3 := X.c3; have X4 := X.c4; have X5 := X.c5; have X6 := X.c6; have X7 := X.c7; have X8 := X.c8; (try dsimp only at X0 X1 X2 X3 X4 X5 X6 X7 X8)
  clear X
  go_upto_if 27 with fail
  go_cut [4] (fun t wx => t = .int .i64 (g / 8192) ∧ CX wx w.heap.size c ∧ Below w.heap.size w wx)
  case first =>
    go_wp2
    all_goals
      go_meet
      exact ⟨(by first | (have hG := HG.out true (by assumption); rw [hG]; first | rfl | (simp; done)) | (have hG := HG.out false (by assumption); rw [hG]; first | rfl | (simp; done))), HX.out, HB.out⟩
  case rest =>
  obtain ⟨rfl, X, B⟩ := hcut
  have HX := Lib.hid X
  have HB := Lib.hid B
  clear X B Xz X0 X1 X2 X3 X4 X5 X6 X7 X8
  have X := HX.out
  (skip); have Xz := X.lt; have X0 := X.c0; have X1 := X.c1; have X2 := X.c2; have X3 := X.c3; have X4 := X.c4; have X5 := X.c5; have X6 := X.c6; have X7 := X.c7; have X8 := X.c8; (try dsimp only at X0 X1 X2 X3 X4 X5 X6 X7 X8)
  clear X
  go_upto_if 29 with fail
  go_cut [5, 6] (fun t t' wx => (t = .int .i64 (F8 c.t) ∧ t' = .int .i64 (c.s * 16)) ∧ CX wx w.heap.size c ∧ Below w.heap.size w wx)
  case first =>
    go_wp2
    all_goals
      have HV : Hid (c.t = true) ∨ Hid (c.t = false) := by first | (exact .inl (Lib.hid (by assumption))) | (exact .inr (Lib.hid (by assumption)))
      go_meet
      exact ⟨(by rcases HV with HV | HV <;> (have hv := HV.out; have := HT.out; simp_all [F8] <;> omega)), HX.out, HB.out⟩
  case rest =>
  obtain ⟨⟨rfl, rfl⟩, X, B⟩ := hcut
  have HX := Lib.hid X
  have HB := Lib.hid B
  clear X B Xz X0 X1 X2 X3 X4 X5 X6 X7 X8
  have X := HX.out
  (skip); have Xz := X.lt; have X0 := X.c0; have X1 := X.c1; have X2 := X.c2; have X3 := X.c3; have X4 := X.c4; have X5 := X.c5; have X6 := X.c6; have X7 := X.c7; have X8 := X.c8; (try dsimp only at X0 X1 X2 X3 X4 X5 X6 X7 X8)
  clear X
  have v0' := v0
  have q0 : 0 ≤ c.m * 16 + V1 c.v + B2 c.b + F8 c.f := by omega
  have q1 : c.m * 16 + V1 c.v + B2 c.b + F8 c.f < 256 := by omega
  obtain ⟨q, hq⟩ : ∃ q, c.m * 16 + V1 c.v + B2 c.b + F8 c.f = q := ⟨_, rfl⟩
  rw [hq] at HCV q0 q1 ⊢
  have hcv := HCV.out
  have HQ := Lib.hid hq
  clear hq
  go_wp2
  go_ret
  exact ⟨by rw [HQ.out]; rfl, HB.out.alloc HB.out.size _⟩
end Go.Proofs.Ytmjadbljhnecbaa
