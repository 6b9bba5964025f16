/-
  HeaderKinds: where one of both has no header. Over this seat's translation; no condition.
-/
import Derived.Test.YtmjadbljhnecbaaHax
namespace Go.Proofs.Ytmjadbljhnecbaa
open Go.RowKit

def oneC (c : Crt) : Crt := ⟨c.m, 0, c.p, c.k, c.b, c.f, c.v, false, c.o⟩
def twoC (c : Crt) : Crt := ⟨c.m, c.s, c.p, c.k, c.b, c.f, c.v, true, c.o⟩
/-- What holds behind the two boxes. -/
def KindCut (w : World) (c : Crt) (t u : Value) (wx : World) : Prop := ∃ b1 b2, t = .pointer (some ⟨b1, 0, none⟩) ∧ u = .pointer (some ⟨b2, 0, none⟩) ∧ b1 ≠ b2 ∧ w.heap.size < b1 ∧ w.heap.size < b2 ∧ CX wx b1 c ∧ CX wx b2 c ∧ CX wx w.heap.size c ∧ Below w.heap.size w wx
theorem CX.alloc {w : World} {R : Nat} {c : Crt} (h : CX w R c) (o : Obj) : CX (w.alloc o) R c := h.next ((Below.refl _ _).alloc (Nat.le_refl _) _)
theorem CX.set_t {w : World} {R : Nat} {c : Crt} (h : CX w R c) (v : Bool) : CX (w.setCell ⟨R, 7, none⟩ (.bool v)) R ⟨c.m, c.s, c.p, c.k, c.b, c.f, c.v, v, c.o⟩ := ⟨by simp [World.setCell, Array.getElem?_modify, h.obj]⟩
theorem CX.new2 (w : World) (o o' : Obj) (c : Crt) : CX (((w.alloc o).alloc o').alloc (.cells #[.int .i64 c.m, .int .i64 c.s, .int .i64 c.p, .int .i64 c.k, .bool c.b, .bool c.f, .bool c.v, .bool c.t, .bool c.o] 26)) (w.heap.size + 1 + 1) c := by
  have h := CX.new ((w.alloc o).alloc o') c
  rwa [show ((w.alloc o).alloc o').heap.size = w.heap.size + 1 + 1 by simp] at h
theorem kind_below (w : World) (c : Crt) : Below w.heap.size w (((w.alloc (.cells #[.int .i64 c.m, .int .i64 c.s, .int .i64 c.p, .int .i64 c.k, .bool c.b, .bool c.f, .bool c.v, .bool c.t, .bool c.o] 26)).alloc (.cells #[.int .i64 c.m, .int .i64 c.s, .int .i64 c.p, .int .i64 c.k, .bool c.b, .bool c.f, .bool c.v, .bool c.t, .bool c.o] 26)).alloc (.cells #[.int .i64 c.m, .int .i64 c.s, .int .i64 c.p, .int .i64 c.k, .bool c.b, .bool c.f, .bool c.v, .bool c.t, .bool c.o] 26)).drew := (by repeat' (first | exact Below.refl _ _ | (refine Below.setCell ?_ (by first | (simp; done) | (simp; omega) | omega) _) | (refine Below.drew ?_) | (refine Below.drewN ?_ _) | (refine Below.alloc ?_ (by first | (simp; done) | (simp; omega) | omega) _)))
theorem kind_cut1 (w : World) (c : Crt) : KindCut w c (.pointer (some ⟨w.heap.size + 1, 0, none⟩)) (.pointer (some ⟨w.heap.size + 1 + 1, 0, none⟩)) (((w.alloc (.cells #[.int .i64 c.m, .int .i64 c.s, .int .i64 c.p, .int .i64 c.k, .bool c.b, .bool c.f, .bool c.v, .bool c.t, .bool c.o] 26)).alloc (.cells #[.int .i64 c.m, .int .i64 c.s, .int .i64 c.p, .int .i64 c.k, .bool c.b, .bool c.f, .bool c.v, .bool c.t, .bool c.o] 26)).alloc (.cells #[.int .i64 c.m, .int .i64 c.s, .int .i64 c.p, .int .i64 c.k, .bool c.b, .bool c.f, .bool c.v, .bool c.t, .bool c.o] 26)).drew :=
  ⟨_, _, rfl, rfl, by omega, by omega, by omega, ((CX.new1 w _ c).alloc _).drew, (CX.new2 w _ _ c).drew, (((CX.new w c).alloc _).alloc _).drew, kind_below w c⟩
theorem kind_cut2 (w : World) (c : Crt) : KindCut w c (.pointer (some ⟨w.heap.size + 1 + 1, 0, none⟩)) (.pointer (some ⟨w.heap.size + 1, 0, none⟩)) (((w.alloc (.cells #[.int .i64 c.m, .int .i64 c.s, .int .i64 c.p, .int .i64 c.k, .bool c.b, .bool c.f, .bool c.v, .bool c.t, .bool c.o] 26)).alloc (.cells #[.int .i64 c.m, .int .i64 c.s, .int .i64 c.p, .int .i64 c.k, .bool c.b, .bool c.f, .bool c.v, .bool c.t, .bool c.o] 26)).alloc (.cells #[.int .i64 c.m, .int .i64 c.s, .int .i64 c.p, .int .i64 c.k, .bool c.b, .bool c.f, .bool c.v, .bool c.t, .bool c.o] 26)).drew :=
  ⟨_, _, rfl, rfl, by omega, by omega, by omega, (CX.new2 w _ _ c).drew, ((CX.new1 w _ c).alloc _).drew, (((CX.new w c).alloc _).alloc _).drew, kind_below w c⟩
set_option maxRecDepth 100000 in
set_option maxHeartbeats 8000000 in
theorem kinds_gen (c : Crt) (w : World) (S1 S2 : ByteArray) (E1 E2 : Int) (K1 : ∀ wr, Calls Try.prog 15 #[crtV (oneC c)] wr fun e w' => e = .returned (.tuple #[.string S1, .int .i64 E1]) ∧ Below wr.heap.size wr w') (K2 : ∀ wr, Calls Try.prog 15 #[crtV (twoC c)] wr fun e w' => e = .returned (.tuple #[.string S2, .int .i64 E2]) ∧ Below wr.heap.size wr w') (h : E1 ≠ 0 ∨ E2 ≠ 0) : Calls Try.prog 8 #[crtV c] w fun e w' => e = .returned (.bool true) ∧ Below w.heap.size w w' := by
  have KA := Lib.hid (fun wr => hawake_ct wr)
  replace K1 := Lib.hid K1
  replace K2 := Lib.hid K2
  unfold crtV oneC at K1
  unfold crtV twoC at K2
  unfold crtV
  go_enter Try.func8, Try.ntmps8
  go_upto_region 1 with fail
  go_cut [3, 4] (fun t u wx => KindCut w c t u wx)
  case first =>
    go_region
    all_goals
      go_wp2
      go_meet
      first | exact kind_cut1 w c | exact kind_cut2 w c
  case rest =>
  obtain ⟨b1, b2, rfl, rfl, hne, hl1, hl2, X1, X2, X0, B⟩ := hcut
  have hne' : b2 ≠ b1 := fun e => hne e.symm
  have hn1 : b1 ≠ w.heap.size := by omega
  have hn2 : b2 ≠ w.heap.size := by omega
  have hw1 : w.heap.size ≤ b1 := by omega
  have hw2 : w.heap.size ≤ b2 := by omega
  have HC1 := Lib.hid (((X1.set_t false).set_s 0).other hne' 7 (.bool true))
  have HC2 := Lib.hid (((X2.other hne 7 (.bool false)).other hne 1 (.int .i64 0)).set_t true)
  have HC0 := Lib.hid (((X0.other hn1 7 (.bool false)).other hn1 1 (.int .i64 0)).other hn2 7 (.bool true))
  have HB := Lib.hid (((B.setCell (p := ⟨b1, 7, none⟩) hw1 (.bool false)).setCell (p := ⟨b1, 1, none⟩) hw1 (.int .i64 0)).setCell (p := ⟨b2, 7, none⟩) hw2 (.bool true))
  dsimp only at HC1 HC2
  (skip); have X1z := X1.lt; have X10 := X1.c0; have X11 := X1.c1; have X12 := X1.c2; have X13 := X1.c3; have X14 := X1.c4; have X15 := X1.c5; have X16 := X1.c6; have X17 := X1.c7; have X18 := X1.c8; (try dsimp only at X10 X11 X12 X13 X14 X15 X16 X17 X18); have X2z := X2.lt; have X20 := X2.c0; have X21 := X2.c1; have X22 := X2.c2; have X23 := X2.c3; have X24 := X2.c4; have X25 := X2.c5; have X26 := X2.c6; have X27 := X2.c7; have X28 := X2.c8; (try dsimp only at X20 X21 X22 X23 X24 X25 X26 X27 X28); have X0z := X0.lt; have X00 := X0.c0; have X01 := X0.c1; have X02 := X0.c2; have X03 := X0.c3; have X04 := X0.c4; have X05 := X0.c5; have X06 := X0.c6; have X07 := X0.c7; have X08 := X0.c8; (try dsimp only at X00 X01 X02 X03 X04 X05 X06 X07 X08)
  have X1f := X1.free
  have X2f := X2.free
  clear X1 X2 X0 B
  go_wp2_with fail
  ((with_reducible refine (K1.out _).mono ?_))
  rintro e w1 ⟨rfl, hB⟩
  replace HC1 := Lib.hid (HC1.out.next hB)
  replace HC2 := Lib.hid (HC2.out.next hB)
  replace HC0 := Lib.hid (HC0.out.next hB)
  replace HB := Lib.hid (HB.out.next hB)
  clear hB X1z X10 X11 X12 X13 X14 X15 X16 X17 X18 X2z X20 X21 X22 X23 X24 X25 X26 X27 X28 X0z X00 X01 X02 X03 X04 X05 X06 X07 X08 X1f X2f
  have Y := HC2.out
  (skip); have Yz := Y.lt; have Y0 := Y.c0; have Y1 := Y.c1; have Y2 := Y.c2; have Y3 := Y.c3; have Y4 := Y.c4; have Y5 := Y.c5; have Y6 := Y.c6; have Y7 := Y.c7; have Y8 := Y.c8; (try dsimp only at Y0 Y1 Y2 Y3 Y4 Y5 Y6 Y7 Y8)
  clear Y
  go_wp2_with fail
  ((with_reducible refine (K2.out _).mono ?_))
  rintro e w2 ⟨rfl, hB⟩
  replace HC1 := Lib.hid (HC1.out.next hB)
  replace HC2 := Lib.hid (HC2.out.next hB)
  replace HC0 := Lib.hid (HC0.out.next hB)
  replace HB := Lib.hid (HB.out.next hB)
  clear hB Yz Y0 Y1 Y2 Y3 Y4 Y5 Y6 Y7 Y8
  by_cases h1 : E1 = 0
  · have h3 : ¬ E2 = 0 := h.resolve_left (fun hh => hh h1)
    have h2 : (E2 == 0) = false := by simpa using h3
    subst h1
    clear h
    go_wp2_with fail
    ((with_reducible refine (KA.out _).mono ?_))
    rintro e w3 ⟨rfl, hB⟩
    replace HB := Lib.hid (HB.out.next hB)
    go_wp2
    go_ret
    exact ⟨(ret_b (by simp [h3]) : Ending.returned (.bool (E2 != 0)) = .returned (.bool true)), HB.out⟩
  · have h2 : (E1 == 0) = false := by simpa using h1
    clear h
    go_wp2_with fail
    ((with_reducible refine (KA.out _).mono ?_))
    rintro e w3 ⟨rfl, hB⟩
    replace HB := Lib.hid (HB.out.next hB)
    go_wp2
    go_ret
    exact ⟨rfl, HB.out⟩
theorem kinds_no (c : Crt) (w : World) (h : chkN (oneC c) ≠ 0 ∨ chkN (twoC c) ≠ 0) : Calls Try.prog 8 #[crtV c] w fun e w' => e = .returned (.bool true) ∧ Below w.heap.size w w' := by
  by_cases h1 : chkN (oneC c) = 0
  · have h2 := h.resolve_left (fun hh => hh h1)
    exact kinds_gen c w _ _ _ _ (fun wr => hmake_yes (oneC c) wr h1) (fun wr => hmake_no (twoC c) wr h2) (.inr h2)
  · by_cases h2 : chkN (twoC c) = 0
    · exact kinds_gen c w _ _ _ _ (fun wr => hmake_no (oneC c) wr h1) (fun wr => hmake_yes (twoC c) wr h2) (.inl h1)
    · exact kinds_gen c w _ _ _ _ (fun wr => hmake_no (oneC c) wr h1) (fun wr => hmake_no (twoC c) wr h2) (.inl h1)
end Go.Proofs.Ytmjadbljhnecbaa
