/-
  Package pixel's functions. Over this seat's translation; no condition. (Written by gen_px.py.)
-/
import Derived.Test.YtkmmmnoipgdedaaPxm
import Derived.Test.YtkmmmnoipgdedaaLbx
import Derived.Test.YtkmmmnoipgdedaaMrw
import Derived.Test.YtkmmmnoipgdedaaQrw
import Derived.Test.YtkmmmnoipgdedaaProg
import Derived.Outline
import Derived.LoopN
namespace Go.Proofs.Ytkmmmnoipgdedaa
open Go.RowKit Go.Sort
set_option linter.unusedSimpArgs false
set_option linter.unusedVariables false
set_option maxRecDepth 20000

set_option maxHeartbeats 2000000 in
theorem pseen_ct (d : BitVec 8) (w : World) : Calls Try.prog 22 #[.int .u8 (w8 d)] w fun e w' => e = .returned (.bool (seenP d)) ∧ Below w.heap.size w w' := by
  have e := seen_raw d
  go_enter Try.func22, Try.ntmps22
  go_wp2
  go_ret
  exact ⟨by first | rfl | (rw [e]; done) | (rw [← e]; rfl) | simp [← e], Below.refl _ _⟩
set_option maxHeartbeats 2000000 in
theorem pshown1_ct (Bm Bx : Nat) (M x b f : Int) (p q : Bool) (w : World) (h1 : w.cell? ⟨Bm, 0, none⟩ = some (.int .u8 M)) (h2 : w.cell? ⟨Bx, 0, none⟩ = some (.int .i64 x)) (hp : (bits .and .u8 M b != 0) = p) (hq : (bits .and .u8 M f != 0) = q) : Calls Try.prog 23 #[.int .u8 b, .int .u8 f, .pointer (some ⟨Bm, 0, none⟩), .pointer (some ⟨Bx, 0, none⟩)] w fun e w' => e = .returned (.bool (p && (decide (8 ≤ x) || q))) ∧ Below w.heap.size w w' := by
  cases p
  · have hB : bits .and .u8 M b = 0 := by simpa using hp
    go_enter Try.func23, Try.ntmps23
    go_wp2
    go_ret
    exact ⟨by first | rfl | simp, Below.refl _ _⟩
  · have hB : bits .and .u8 M b ≠ 0 := by simpa using hp
    have hB2 : decide (bits .and .u8 M b = 0) = false := decide_eq_false hB
    have hB3 : (bits .and .u8 M b == 0) = false := by simpa using hB
    by_cases hx : 8 ≤ x
    · rw [decide_eq_true hx]
      go_enter Try.func23, Try.ntmps23
      go_wp2
      go_ret
      exact ⟨by first | rfl | simp, Below.refl _ _⟩
    · rw [decide_eq_false hx]
      go_enter Try.func23, Try.ntmps23
      go_wp2
      go_ret
      exact ⟨by first | rfl | (rw [← hq]; rfl) | simp [← hq], Below.refl _ _⟩
/-- A closure over a mask and a column, as it is made. -/
def ShownOP (M x : Int) (w : World) (e : Ending) (w' : World) : Prop :=
  ∃ Bx Bm, e = .returned (.func (.func 23) #[] #[.pointer (some ⟨Bm, 0, none⟩), .pointer (some ⟨Bx, 0, none⟩)]) ∧ Mem w.heap.size [] w w' [(Bx, #[.int .i64 x]), (Bm, #[.int .u8 M])]
attribute [local irreducible] wpList
set_option maxHeartbeats 2000000 in
theorem pshownin_ct (M x : Int) (w : World) : Calls Try.prog 19 #[.int .u8 M, .int .i64 x] w (ShownOP M x w) := by
  have H := Mem.start w
  have M1 : True := trivial
  have M2 : True := trivial
  go_enter Try.func19, Try.ntmps19
  go_wp2_with (first | (clear M1; refine wpList_mbox rfl _ _ rfl H #[.int .u8 M] rfl ?_; clear H; intro Bm w1 _ H) | (clear M2; refine wpList_mbox rfl _ _ rfl H #[.int .i64 x] rfl ?_; clear H; intro Bx w1 _ H) | fail)
  go_ret
  exact ⟨_, _, rfl, H⟩
set_option maxHeartbeats 2000000 in
theorem pshown_ct (m : BitVec 8) (x : Int) (w : World) : Calls Try.prog 8 #[.int .u8 (w8 m), .int .i64 x] w fun e w' => e = .returned (.tuple #[.bool (gndP m x), .bool (sprP m x)]) ∧ Below w.heap.size w w' := by
  have QI := Lib.hid (fun wr => pshownin_ct (w8 m) x wr)
  have Q1 := Lib.hid (fun Bm Bx wr h1 h2 => pshown1_ct Bm Bx (w8 m) x 8 2 _ _ wr h1 h2 (mask8 m) (mask2 m))
  have Q2 := Lib.hid (fun Bm Bx wr h1 h2 => pshown1_ct Bm Bx (w8 m) x 16 4 _ _ wr h1 h2 (mask16 m) (mask4 m))
  unfold gndP sprP
  generalize (m.getLsbD 3 && (decide (8 ≤ x) || m.getLsbD 1)) = p at *
  generalize (m.getLsbD 4 && (decide (8 ≤ x) || m.getLsbD 2)) = q at *
  have H := Mem.start w
  go_enter Try.func8, Try.ntmps8
  go_wp2_with (first | (go_at_call 19; (with_reducible refine (QI.out _).mono ?_); rintro e w2 ⟨Bx, Bm, rfl, hM⟩; replace H := H.join hM; rw [List.append_nil] at H; clear hM) | (go_at_call 23; (with_reducible refine (Q1.out _ _ _ (H.cell (i := 1) (j := 0) rfl rfl) (H.cell (i := 0) (j := 0) rfl rfl)).mono ?_); rintro e w2 ⟨rfl, hB⟩; replace H := H.next hB; clear hB) | (go_at_call 23; (with_reducible refine (Q2.out _ _ _ (H.cell (i := 1) (j := 0) rfl rfl) (H.cell (i := 0) (j := 0) rfl rfl)).mono ?_); rintro e w2 ⟨rfl, hB⟩; replace H := H.next hB; clear hB) | fail)
  go_ret2
  exact ⟨rfl, H.toBelow⟩
set_option maxHeartbeats 2000000 in
theorem pon_ct (m : BitVec 8) (w : World) : Calls Try.prog 12 #[.int .u8 (w8 m)] w fun e w' => e = .returned (.bool (anyP m)) ∧ Below w.heap.size w w' := by
  have Q := fun wr => pshown_ct m 8 wr
  unfold gndP sprP at Q
  simp only [show decide ((8 : Int) ≤ 8) = true from rfl, Bool.true_or, Bool.and_true] at Q
  unfold anyP
  generalize m.getLsbD 3 = p at *
  generalize m.getLsbD 4 = q at *
  have QS := Lib.hid Q
  clear Q
  have H := Mem.start w
  cases p
  all_goals
    go_enter Try.func12, Try.ntmps12
    go_wp2_with (first | (go_at_call 8; (with_reducible refine (QS.out _).mono ?_); rintro e w2 ⟨rfl, hB⟩; replace H := H.next hB; clear hB) | fail)
    go_ret
    exact ⟨rfl, H.toBelow⟩
def placeO (p q b : Bool) (x y : Int) : Int := cond (!p && !q) 0 (cond (!q || p && b) x y)
theorem placeO_at (g s : BitVec 8) (b : Bool) : w8 (placeP g s b) = placeO (seenP g) (seenP s) b (w8 (g &&& 15#8)) (w8 (16#8 + (s &&& 15#8))) := by
  unfold placeP placeO
  cases seenP g <;> cases seenP s <;> cases b <;> rfl
set_option maxHeartbeats 2000000 in
theorem pover_ct (g s : BitVec 8) (b : Bool) (w : World) : Calls Try.prog 14 #[.int .u8 (w8 g), .int .u8 (w8 s), .bool b] w fun e w' => e = .returned (.int .u8 (w8 (placeP g s b))) ∧ Below w.heap.size w w' := by
  have Q1 := Lib.hid (fun wr => pseen_ct g wr)
  have Q2 := Lib.hid (fun wr => pseen_ct s wr)
  have e1 := and15_raw g
  have e2 := and15_raw s
  have e3 := add16_raw s
  have h3 := w8_lt (16#8 + (s &&& 15#8))
  rw [placeO_at]
  generalize w8 (16#8 + (s &&& 15#8)) = y at *
  generalize w8 (g &&& 15#8) = u at *
  generalize w8 (s &&& 15#8) = z at *
  obtain ⟨h30, h31⟩ := h3
  generalize seenP g = p at *
  generalize seenP s = q at *
  have H := Mem.start w
  cases p <;> cases q <;> cases b
  all_goals
    go_enter Try.func14, Try.ntmps14
    go_wp2_with (first | (go_at_call 22; (with_reducible refine (Q1.out _).mono ?_); rintro e w2 ⟨rfl, hB⟩; replace H := H.next hB; clear hB) | (go_at_call 22; (with_reducible refine (Q2.out _).mono ?_); rintro e w2 ⟨rfl, hB⟩; replace H := H.next hB; clear hB) | fail)
    go_ret
    exact ⟨by first | rfl | (rw [e1]; rfl) | (rw [← e1]; rfl) | (rw [e2, IntKind.wrap_u8]; simp only [placeO, cond]; congr 2; omega) | (simp [placeO, e1, e2, e3, IntKind.wrap_u8]; done) | (simp [placeO, e1, e2, e3, IntKind.wrap_u8]; omega), H.toBelow⟩
set_option maxHeartbeats 2000000 in
theorem phit_ct (g s : BitVec 8) (x : Int) (w : World) : Calls Try.prog 16 #[.int .u8 (w8 g), .int .u8 (w8 s), .int .i64 x] w fun e w' => e = .returned (.bool (hitP g s x)) ∧ Below w.heap.size w w' := by
  have Q1 := Lib.hid (fun wr => pseen_ct g wr)
  have Q2 := Lib.hid (fun wr => pseen_ct s wr)
  unfold hitP
  generalize seenP g = p at *
  generalize seenP s = q at *
  have H := Mem.start w
  by_cases hx : x = 255
  · subst hx
    cases p <;> cases q
    all_goals
      go_enter Try.func16, Try.ntmps16
      go_wp2_with (first | (go_at_call 22; (with_reducible refine (Q1.out _).mono ?_); rintro e w2 ⟨rfl, hB⟩; replace H := H.next hB; clear hB) | (go_at_call 22; (with_reducible refine (Q2.out _).mono ?_); rintro e w2 ⟨rfl, hB⟩; replace H := H.next hB; clear hB) | fail)
      go_ret
      exact ⟨rfl, H.toBelow⟩
  · rw [decide_eq_false hx]
    have hx2 : (x != 255) = true := by simpa using hx
    cases p <;> cases q
    all_goals
      go_enter Try.func16, Try.ntmps16
      go_wp2_with (first | (go_at_call 22; (with_reducible refine (Q1.out _).mono ?_); rintro e w2 ⟨rfl, hB⟩; replace H := H.next hB; clear hB) | (go_at_call 22; (with_reducible refine (Q2.out _).mono ?_); rintro e w2 ⟨rfl, hB⟩; replace H := H.next hB; clear hB) | fail)
      go_ret
      exact ⟨by first | rfl | (rw [hx2]; rfl) | simp [hx], H.toBelow⟩
end Go.Proofs.Ytkmmmnoipgdedaa
