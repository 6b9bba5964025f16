/-
  Package header's Make, and the document's. Over this seat's translation; no condition.
-/
import Derived.Test.YtaljenjnedijgaaHwd
import Derived.Test.YtaljenjnedijgaaTas
namespace Go.Proofs.Ytaljenjnedijgaa
open Go.RowKit

def V1 (v : Bool) : Int := if v = true then 1 else 0
def B2 (v : Bool) : Int := if v = true then 2 else 0
def F8 (v : Bool) : Int := if v = true then 8 else 0
/-- A header's octets. -/
def mkN (c : Crt) : List Int := [78, 69, 83, 26, c.p / 16384, givN c / 8192, c.m * 16 + V1 c.v + B2 c.b + F8 c.f, F8 c.t, c.s * 16, 0, 0, 0, 0, 0, 0, 0]
def mkS (c : Crt) : ByteArray := strOfNums (mkN c)
theorem or_six (m : Int) (hm : mapOk m = true) (v b f : Bool) : bits .or .u8 (bits .or .u8 (bits .or .u8 (m * 16) (V1 v)) (B2 b)) (F8 f) = m * 16 + V1 v + B2 b + F8 f := by
  rcases mapOk_iff.1 hm with rfl | rfl | rfl | rfl | rfl | rfl
  all_goals cases v <;> cases b <;> cases f <;> decide
def upd (x : Nat → Int) (i : Nat) (v : Int) : Nat → Int := fun j => if j = i then v else x j
theorem HD.put {w : World} {R : Nat} {x : Nat → Int} (h : HD w R x) : ∀ (i : Nat), i < 16 → ∀ v : Int, HD (w.setCell ⟨R, i, none⟩ (.int .u8 v)) R (upd x i v) := by
  intro i hi v
  match i, hi with
  | 0, _ | 1, _ | 2, _ | 3, _ | 4, _ | 5, _ | 6, _ | 7, _ | 8, _ | 9, _ | 10, _ | 11, _ | 12, _ | 13, _ | 14, _ | 15, _ => exact ⟨by simp [World.setCell, Array.getElem?_modify, h.obj, upd]⟩
  | n + 16, h => exact absurd h (by omega)
theorem conv16 (w1 : World) (g : Nat) (x : Nat → Int) (X : HD w1 g x) : (convert 30 9 (.slice (some ⟨g, 0, none⟩) 16 16)).run Try.prog w1 = .ok (.string (strOfNums [x 0, x 1, x 2, x 3, x 4, x 5, x 6, x 7, x 8, x 9, x 10, x 11, x 12, x 13, x 14, x 15])) w1 :=
  run_convert_bytes_arg (P := Try.prog) w1 30 5 Try.underlying30 Try.underlying5 g 0 16 16 [x 0, x 1, x 2, x 3, x 4, x 5, x 6, x 7, x 8, x 9, x 10, x 11, x 12, x 13, x 14, x 15] rfl (fun i hi => by
    rw [Nat.zero_add, X.at i hi]
    match i, hi with
    | 0, _ | 1, _ | 2, _ | 3, _ | 4, _ | 5, _ | 6, _ | 7, _ | 8, _ | 9, _ | 10, _ | 11, _ | 12, _ | 13, _ | 14, _ | 15, _ => rfl
    | n + 16, h => exact absurd h (by omega)) _ Try.underlying9
/-- The header's beginning, copied. -/
def magX (i : Nat) : Int := [78, 69, 83, 26].getD i 0
theorem copy_magic (w : World) (ty : TypeId) (g : Nat) (hB : w.heap.size ≤ g) (w0 : World) (hw : Below w.heap.size w w0) (hg : w0.heap[g]? = some (.cells #[.int .u8 0, .int .u8 0, .int .u8 0, .int .u8 0, .int .u8 0, .int .u8 0, .int .u8 0, .int .u8 0, .int .u8 0, .int .u8 0, .int .u8 0, .int .u8 0, .int .u8 0, .int .u8 0, .int .u8 0, .int .u8 0] 45)) :
    ∃ w1, (Builtin.copy_ #[30, 9] ty #[.slice (some ⟨g, 0, none⟩) 16 16, .string ⟨#[78, 69, 83, 26]⟩]).run Try.prog w0 = .ok (goInt 4) w1 ∧ HD w1 g magX ∧ Below w.heap.size w w1 ∧ w1.heap.size = w0.heap.size ∧ (∀ k, k ≠ g → w1.heap[k]? = w0.heap[k]?) := by
  have h := run_copy_str (P := Try.prog) w0 30 9 ty 5 g 16 ⟨#[78, 69, 83, 26]⟩ _ _ Try.underlying30 info_oct hg (by rfl)
  have hk : Nat.min (ByteArray.size ⟨#[78, 69, 83, 26]⟩) 16 = 4 := by rfl
  rw [hk] at h
  refine ⟨_, h, ⟨?_⟩, below_setRow hw hB _, by simp, fun k hk => setRow_other _ g k _ hk⟩
  exact setRow_heap w0 g _ _ _ _ hg
theorem hbit_b (s : Bool) (n : Int) (w : World) : Calls Try.prog 14 #[.bool s, .int .u8 n] w fun e w' => e = .returned (.int .u8 (if s = true then n else 0)) ∧ Below w.heap.size w w' := (hbit_ct s n w).mono fun _ _ ⟨h, e⟩ => ⟨h, e ▸ Below.refl _ _⟩
set_option maxRecDepth 100000 in
set_option maxHeartbeats 4000000 in
theorem hmake_no (c : Crt) (w : World) (h : chkN c ≠ 0) : Calls Try.prog 6 #[crtV c] w fun e w' => e = .returned (.tuple #[.string ⟨#[]⟩, .int .i64 (chkN c)]) ∧ Below w.heap.size w w' := by
  have K1 := fun wr => hcheck_ct c wr
  obtain ⟨E, hE⟩ : ∃ E, chkN c = E := ⟨_, rfl⟩
  rw [hE] at K1 h ⊢
  unfold crtV at K1 ⊢
  have H1 := Lib.hid K1
  clear K1 hE
  go_enter Try.func6, Try.ntmps6
  go_wp2_with fail
  ((with_reducible refine (H1.out _).mono ?_))
  rintro e w1 ⟨rfl, hB⟩
  go_wp2
  go_ret2
  exact ⟨rfl, (by repeat' (first | exact Below.refl _ _ | (refine Below.setCell ?_ (by first | (simp; done) | (simp; omega) | omega) _) | (refine Below.drew ?_) | (refine Below.drewN ?_ _) | (refine Below.alloc ?_ (by first | (simp; done) | (simp; omega) | omega) _) | (refine Below.trans ?_ (Below.mono hB (by first | (simp; done) | (simp; omega) | omega)))))⟩
set_option maxRecDepth 100000 in
set_option maxHeartbeats 8000000 in
theorem hmake_yes (c : Crt) (w : World) (h : chkN c = 0) : Calls Try.prog 6 #[crtV c] w fun e w' => e = .returned (.tuple #[.string (mkS c), .int .i64 0]) ∧ Below w.heap.size w w' := by
  have K1 := fun wr => hcheck_ct c wr
  have K2 := fun wr => hgiven_ct c wr
  obtain ⟨hm, hp, hk, ho, s0, s1, _⟩ := chkN_zero.1 h
  have hp' := prgOk_iff.1 hp
  have hm' := mapOk_iff.1 hm
  have hk' := chrOk_iff.1 hk
  have hsix := or_six c.m hm c.v c.b c.f
  have hg0 : 0 ≤ givN c ∧ givN c ≤ 262144 := by unfold givN; split <;> omega
  rw [h] at K1
  have p0 : 0 ≤ c.p := by omega
  have p1 : c.p ≤ 524288 := by omega
  have m0 : 0 ≤ c.m := by omega
  have m1 : c.m ≤ 7 := by omega
  clear h hp hk hm ho hp' hm' hk'
  have KV := fun wr => hbit_b c.v 1 wr
  have KB := fun wr => hbit_b c.b 2 wr
  have KF := fun wr => hbit_b c.f 8 wr
  have KT := fun wr => hbit_b c.t 8 wr
  have hS : mkS c = strOfNums [78, 69, 83, 26, c.p / 16384, givN c / 8192, c.m * 16 + V1 c.v + B2 c.b + F8 c.f, F8 c.t, c.s * 16, 0, 0, 0, 0, 0, 0, 0] := rfl
  rw [hS]
  obtain ⟨g, hg⟩ : ∃ g, givN c = g := ⟨_, rfl⟩
  rw [hg] at K2 hg0 ⊢
  clear hg hS
  obtain ⟨m, s, p, k, b, f, v, t, o⟩ := c
  simp only [crtV] at *
  rw [show (if v = true then (1 : Int) else 0) = V1 v from rfl] at KV
  rw [show (if b = true then (2 : Int) else 0) = B2 b from rfl] at KB
  rw [show (if f = true then (8 : Int) else 0) = F8 f from rfl] at KF
  rw [show (if t = true then (8 : Int) else 0) = F8 t from rfl] at KT
  generalize V1 v = v1 at *
  generalize B2 b = b2 at *
  generalize F8 f = f8 at *
  generalize F8 t = t8 at *
  obtain ⟨q1, e1⟩ : ∃ q, bits .or .u8 (m * 16) v1 = q := ⟨_, rfl⟩
  rw [e1] at hsix
  obtain ⟨q2, e2⟩ : ∃ q, bits .or .u8 q1 b2 = q := ⟨_, rfl⟩
  rw [e2] at hsix
  obtain ⟨q3, e3⟩ : ∃ q, m * 16 + v1 + b2 + f8 = q := ⟨_, rfl⟩
  rw [e3] at hsix ⊢
  clear e3
  have H1 := Lib.hid K1
  have H2 := Lib.hid K2
  clear K1 K2
  obtain ⟨g0, g1⟩ := hg0
  go_enter Try.func6, Try.ntmps6
  go_wp2_with fail
  ((with_reducible refine (H1.out _).mono ?_))
  rintro e w1 ⟨rfl, hB⟩
  have C := (CX.new w ⟨m, s, p, k, b, f, v, t, o⟩).next hB
  have B1 : Below w.heap.size w w1 := (by repeat' (first | exact Below.refl _ _ | (refine Below.setCell ?_ (by first | (simp; done) | (simp; omega) | omega) _) | (refine Below.drew ?_) | (refine Below.drewN ?_ _) | (refine Below.alloc ?_ (by first | (simp; done) | (simp; omega) | omega) _) | (refine Below.trans ?_ (Below.mono hB (by first | (simp; done) | (simp; omega) | omega)))))
  clear hB
  have B2' : Below w.heap.size w (w1.alloc (.cells #[.int .u8 0, .int .u8 0, .int .u8 0, .int .u8 0, .int .u8 0, .int .u8 0, .int .u8 0, .int .u8 0, .int .u8 0, .int .u8 0, .int .u8 0, .int .u8 0, .int .u8 0, .int .u8 0, .int .u8 0, .int .u8 0] 45)) := B1.alloc B1.size _
  obtain ⟨w2, hrun, D, hB2, hz2, hk2⟩ := copy_magic w 3 w1.heap.size B1.size _ B2' (World.alloc_heap_new w1 _)
  have HC : Hid (CX w2 w.heap.size ⟨m, s, p, k, b, f, v, t, o⟩) := Lib.hid ⟨by rw [hk2 _ (by have := C.lt; omega), Lib.alloc_old w1 _ _ C.lt]; exact C.obj⟩
  have HD2 := Lib.hid D
  have HB := Lib.hid hB2
  have hz2' : w2.heap.size = w1.heap.size + 1 := by rw [hz2]; simp
  have hne : w.heap.size < w1.heap.size := C.lt
  clear C D hB2 hz2 hk2 B2' B1
  have C := HC.out
  (skip); have Cz := C.lt; have C0 := C.c0; have C1 := C.c1; have C2 := C.c2; have C3 := C.c3; have C4 := C.c4; have C5 := C.c5; have C6 := C.c6; have C7 := C.c7; have C8 := C.c8; (try dsimp only at C0 C1 C2 C3 C4 C5 C6 C7 C8)
  have D := HD2.out
  (skip); have Dz := D.lt; have D0 := D.at 0 (by decide); have D1 := D.at 1 (by decide); have D2 := D.at 2 (by decide); have D3 := D.at 3 (by decide); have D4 := D.at 4 (by decide); have D5 := D.at 5 (by decide); have D6 := D.at 6 (by decide); have D7 := D.at 7 (by decide); have D8 := D.at 8 (by decide); have D9 := D.at 9 (by decide); have D10 := D.at 10 (by decide); have D11 := D.at 11 (by decide); have D12 := D.at 12 (by decide); have D13 := D.at 13 (by decide); have D14 := D.at 14 (by decide); have D15 := D.at 15 (by decide); have Df := D.free
  clear C D
  go_wp2_with (refine wpList_copy_known _ rfl _ _ _ _ rfl _ _ rfl rfl hrun ?_)
  have hne' : w1.heap.size ≠ w.heap.size := by omega
  have hle : w.heap.size ≤ w1.heap.size := by omega
  ((with_reducible refine (H2.out _).mono ?_))
  rintro e w3 ⟨rfl, hB⟩
  have HD3 := Lib.hid ((HD2.out.put 4 (by decide) (p / 16384)).next hB)
  replace HC := Lib.hid ((HC.out.other hne' 4 _).next hB)
  replace HB := Lib.hid ((HB.out.setCell (p := ⟨w1.heap.size, 4, none⟩) hle _).next hB)
  clear hB hrun HD2 H1 H2 Cz C0 C1 C2 C3 C4 C5 C6 C7 C8 Dz Df D0 D1 D2 D3 D4 D5 D6 D7 D8 D9 D10 D11 D12 D13 D14 D15
  have C := HC.out
  (skip); have Cz := C.lt; have C0 := C.c0; have C1 := C.c1; have C2 := C.c2; have C3 := C.c3; have C4 := C.c4; have C5 := C.c5; have C6 := C.c6; have C7 := C.c7; have C8 := C.c8; (try dsimp only at C0 C1 C2 C3 C4 C5 C6 C7 C8)
  have D := HD3.out
  (skip); have Dz := D.lt; have D0 := D.at 0 (by decide); have D1 := D.at 1 (by decide); have D2 := D.at 2 (by decide); have D3 := D.at 3 (by decide); have D4 := D.at 4 (by decide); have D5 := D.at 5 (by decide); have D6 := D.at 6 (by decide); have D7 := D.at 7 (by decide); have D8 := D.at 8 (by decide); have D9 := D.at 9 (by decide); have D10 := D.at 10 (by decide); have D11 := D.at 11 (by decide); have D12 := D.at 12 (by decide); have D13 := D.at 13 (by decide); have D14 := D.at 14 (by decide); have D15 := D.at 15 (by decide); have Df := D.free
  clear C D
  go_wp2
  have HD4 := HD3.out.put 5 (by decide) (g / 8192)
  have HC4 := HC.out.other hne' 5 (.int .u8 (g / 8192))
  have HB4 := HB.out.setCell (p := ⟨w1.heap.size, 5, none⟩) hle (.int .u8 (g / 8192))
  clear Cz C0 C1 C2 C3 C4 C5 C6 C7 C8 Dz Df D0 D1 D2 D3 D4 D5 D6 D7 D8 D9 D10 D11 D12 D13 D14 D15 HD3 HC HB
  generalize w3.setCell ⟨w1.heap.size, 5, none⟩ (.int .u8 (g / 8192)) = w4 at HD4 HC4 HB4 ⊢
  (skip); have HC4z := HC4.lt; have HC40 := HC4.c0; have HC41 := HC4.c1; have HC42 := HC4.c2; have HC43 := HC4.c3; have HC44 := HC4.c4; have HC45 := HC4.c5; have HC46 := HC4.c6; have HC47 := HC4.c7; have HC48 := HC4.c8; (try dsimp only at HC40 HC41 HC42 HC43 HC44 HC45 HC46 HC47 HC48)
  have r0 := cell_regrown HC40
  have r4 := cell_regrown HC44
  have r5 := cell_regrown HC45
  have r6 := cell_regrown HC46
  have HX := Lib.hid HC4
  have HY := Lib.hid HD4
  have HZ := Lib.hid HB4
  clear HC4 HD4 HB4 HC4z HC40 HC41 HC42 HC43 HC44 HC45 HC46 HC47 HC48
  (refine wp_region_tail_below 17 (by kernel_rfl) (by kernel_rfl) ?_); (simp only [List.take_succ_cons, List.take_zero, List.drop_succ_cons, List.drop_zero]); (repeat (go_big_quiet_step ((go_at_call 14; first | (with_reducible exact Calls.regrown_of (KV _)) | (with_reducible exact Calls.regrown_of (KB _)) | (with_reducible exact Calls.regrown_of (KF _)))))); (refine wpQuiet_nil ?_); intro _ hw'; obtain ⟨⟨dq, osq⟩, hw''⟩ := hw'; (subst hw''); have hq := below_regrown w4 dq osq; skip; generalize Go.Sort.grow (redrawn w4 dq) osq = wq at *
  have HC := Lib.hid (HX.out.next hq)
  have HD5 := Lib.hid (HY.out.next hq)
  have HB := Lib.hid (HZ.out.next hq)
  clear hq HX HY HZ
  have C := HC.out
  (skip); have Cz := C.lt; have C0 := C.c0; have C1 := C.c1; have C2 := C.c2; have C3 := C.c3; have C4 := C.c4; have C5 := C.c5; have C6 := C.c6; have C7 := C.c7; have C8 := C.c8; (try dsimp only at C0 C1 C2 C3 C4 C5 C6 C7 C8)
  have D := HD5.out
  (skip); have Dz := D.lt; have D0 := D.at 0 (by decide); have D1 := D.at 1 (by decide); have D2 := D.at 2 (by decide); have D3 := D.at 3 (by decide); have D4 := D.at 4 (by decide); have D5 := D.at 5 (by decide); have D6 := D.at 6 (by decide); have D7 := D.at 7 (by decide); have D8 := D.at 8 (by decide); have D9 := D.at 9 (by decide); have D10 := D.at 10 (by decide); have D11 := D.at 11 (by decide); have D12 := D.at 12 (by decide); have D13 := D.at 13 (by decide); have D14 := D.at 14 (by decide); have D15 := D.at 15 (by decide); have Df := D.free
  clear C D
  go_wp2_with fail
  ((with_reducible refine (KT _).mono ?_))
  rintro e w6 ⟨rfl, hB⟩
  have HD6 := Lib.hid ((HD5.out.put 6 (by decide) q3).next hB)
  replace HC := Lib.hid ((HC.out.other hne' 6 _).next hB)
  replace HB := Lib.hid ((HB.out.setCell (p := ⟨w1.heap.size, 6, none⟩) hle _).next hB)
  clear hB HD5 KT KV KB KF Cz C0 C1 C2 C3 C4 C5 C6 C7 C8 Dz Df D0 D1 D2 D3 D4 D5 D6 D7 D8 D9 D10 D11 D12 D13 D14 D15
  have C := HC.out
  (skip); have Cz := C.lt; have C0 := C.c0; have C1 := C.c1; have C2 := C.c2; have C3 := C.c3; have C4 := C.c4; have C5 := C.c5; have C6 := C.c6; have C7 := C.c7; have C8 := C.c8; (try dsimp only at C0 C1 C2 C3 C4 C5 C6 C7 C8)
  have D := HD6.out
  (skip); have Dz := D.lt; have D0 := D.at 0 (by decide); have D1 := D.at 1 (by decide); have D2 := D.at 2 (by decide); have D3 := D.at 3 (by decide); have D4 := D.at 4 (by decide); have D5 := D.at 5 (by decide); have D6 := D.at 6 (by decide); have D7 := D.at 7 (by decide); have D8 := D.at 8 (by decide); have D9 := D.at 9 (by decide); have D10 := D.at 10 (by decide); have D11 := D.at 11 (by decide); have D12 := D.at 12 (by decide); have D13 := D.at 13 (by decide); have D14 := D.at 14 (by decide); have D15 := D.at 15 (by decide); have Df := D.free
  clear C D
  have hcv : (convert 30 9 (.slice (some ⟨w1.heap.size, 0, none⟩) 16 16)).run Try.prog ((w6.setCell ⟨w1.heap.size, 7, none⟩ (.int .u8 t8)).setCell ⟨w1.heap.size, 8, none⟩ (.int .u8 (s * 16))) = .ok (.string (strOfNums [78, 69, 83, 26, p / 16384, g / 8192, q3, t8, s * 16, 0, 0, 0, 0, 0, 0, 0])) ((w6.setCell ⟨w1.heap.size, 7, none⟩ (.int .u8 t8)).setCell ⟨w1.heap.size, 8, none⟩ (.int .u8 (s * 16))) :=
    conv16 _ _ _ ((HD6.out.put 7 (by decide) t8).put 8 (by decide) (s * 16))
  go_wp2
  go_ret2
  exact ⟨rfl, (by repeat' (first | (with_reducible exact HB.out) | (with_reducible refine Below.setCell ?_ (by first | omega | (dsimp only; omega) | (simp; omega) | (simp; done)) _) | (with_reducible refine Below.alloc ?_ (by first | omega | (simp; omega) | (simp; done)) _) | (with_reducible refine Below.drew ?_) | (with_reducible exact Below.refl _ _)))⟩
end Go.Proofs.Ytaljenjnedijgaa
