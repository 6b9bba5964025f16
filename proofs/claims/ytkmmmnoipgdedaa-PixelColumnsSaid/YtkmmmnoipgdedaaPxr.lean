/-
  The document's plain answers for dots over one another: bit, Shown, On, Over, Hit. Over this seat's translation; no condition. (Written by gen_px.py.)
-/
import Derived.Test.YtkmmmnoipgdedaaPxd
namespace Go.Proofs.Ytkmmmnoipgdedaa
open Go.RowKit Go.Sort
set_option linter.unusedSimpArgs false
set_option linter.unusedVariables false
set_option maxRecDepth 20000

set_option maxHeartbeats 2000000 in
theorem rbit16_ct (m : BitVec 8) (i : Int) (b : Bool) (i0 : 0 ≤ i) (i1 : i < 8) (hb : m.getLsbD i.toNat = b) (w : World) : Calls Try.prog 20 #[.int .u8 (w8 m), .int .i64 i] w fun e w' => e = .returned (.bool b) ∧ Below w.heap.size w w' := by
  have hn := w8_lt m
  have e := w8_bit m i.toNat
  have hq0 : 0 ≤ w8 m / 2 ^ i.toNat := Int.ediv_nonneg hn.1 (Int.pow_nonneg (by decide))
  have em : (w8 m / 2 ^ i.toNat).tmod 2 = b2i (m.getLsbD i.toNat) := by rw [Int.tmod_eq_emod_of_nonneg hq0, e]
  rw [hb] at e em
  clear hq0 hb
  cases b
  all_goals
    simp only [b2i, if_true, Bool.false_eq_true, if_false] at e em
    go_enter Try.func20, Try.ntmps20
    go_wp2
    go_ret
    exact ⟨by first | rfl | (rw [e]; rfl) | (rw [em]; rfl), Below.refl _ _⟩
attribute [local irreducible] wpList
set_option maxHeartbeats 2000000 in
theorem rshown16_ct (m : BitVec 8) (x : Int) (w : World) : Calls Try.prog 9 #[.int .u8 (w8 m), .int .i64 x] w fun e w' => e = .returned (.tuple #[.bool (gndP m x), .bool (sprP m x)]) ∧ Below w.heap.size w w' := by
  have Q1 := Lib.hid (fun wr => rbit16_ct m 1 _ (by decide) (by decide) rfl wr)
  have Q2 := Lib.hid (fun wr => rbit16_ct m 2 _ (by decide) (by decide) rfl wr)
  have Q3 := Lib.hid (fun wr => rbit16_ct m 3 _ (by decide) (by decide) rfl wr)
  have Q4 := Lib.hid (fun wr => rbit16_ct m 4 _ (by decide) (by decide) rfl wr)
  unfold gndP sprP
  rw [show ((1 : Int).toNat) = 1 from rfl] at Q1
  rw [show ((2 : Int).toNat) = 2 from rfl] at Q2
  rw [show ((3 : Int).toNat) = 3 from rfl] at Q3
  rw [show ((4 : Int).toNat) = 4 from rfl] at Q4
  generalize m.getLsbD 1 = p1 at *
  generalize m.getLsbD 2 = p2 at *
  generalize m.getLsbD 3 = p3 at *
  generalize m.getLsbD 4 = p4 at *
  generalize w8 m = M at *
  have H := Mem.start w
  by_cases hx : 8 ≤ x
  · rw [decide_eq_true hx]
    simp only [Bool.true_or, Bool.and_true]
    go_enter Try.func9, Try.ntmps9
    go_wp2_with (first | (go_at_call 20; (with_reducible refine (Q1.out _).mono ?_); rintro e w2 ⟨rfl, hB⟩; replace H := H.next hB; clear hB) | (go_at_call 20; (with_reducible refine (Q2.out _).mono ?_); rintro e w2 ⟨rfl, hB⟩; replace H := H.next hB; clear hB) | (go_at_call 20; (with_reducible refine (Q3.out _).mono ?_); rintro e w2 ⟨rfl, hB⟩; replace H := H.next hB; clear hB) | (go_at_call 20; (with_reducible refine (Q4.out _).mono ?_); rintro e w2 ⟨rfl, hB⟩; replace H := H.next hB; clear hB) | fail)
    go_ret2
    exact ⟨rfl, H.toBelow⟩
  · rw [decide_eq_false hx]
    simp only [Bool.false_or]
    cases p3 <;> cases p4
    all_goals
      go_enter Try.func9, Try.ntmps9
      go_wp2_with (first | (go_at_call 20; (with_reducible refine (Q1.out _).mono ?_); rintro e w2 ⟨rfl, hB⟩; replace H := H.next hB; clear hB) | (go_at_call 20; (with_reducible refine (Q2.out _).mono ?_); rintro e w2 ⟨rfl, hB⟩; replace H := H.next hB; clear hB) | (go_at_call 20; (with_reducible refine (Q3.out _).mono ?_); rintro e w2 ⟨rfl, hB⟩; replace H := H.next hB; clear hB) | (go_at_call 20; (with_reducible refine (Q4.out _).mono ?_); rintro e w2 ⟨rfl, hB⟩; replace H := H.next hB; clear hB) | fail)
      go_ret2
      exact ⟨rfl, H.toBelow⟩
set_option maxHeartbeats 2000000 in
theorem ron16_ct (m : BitVec 8) (w : World) : Calls Try.prog 13 #[.int .u8 (w8 m)] w fun e w' => e = .returned (.bool (anyP m)) ∧ Below w.heap.size w w' := by
  have Q3 := Lib.hid (fun wr => rbit16_ct m 3 _ (by decide) (by decide) rfl wr)
  have Q4 := Lib.hid (fun wr => rbit16_ct m 4 _ (by decide) (by decide) rfl wr)
  unfold anyP
  rw [show ((3 : Int).toNat) = 3 from rfl] at Q3
  rw [show ((4 : Int).toNat) = 4 from rfl] at Q4
  generalize m.getLsbD 3 = p3 at *
  generalize m.getLsbD 4 = p4 at *
  generalize w8 m = M at *
  have H := Mem.start w
  cases p3
  all_goals
    go_enter Try.func13, Try.ntmps13
    go_wp2_with (first | (go_at_call 20; (with_reducible refine (Q3.out _).mono ?_); rintro e w2 ⟨rfl, hB⟩; replace H := H.next hB; clear hB) | (go_at_call 20; (with_reducible refine (Q4.out _).mono ?_); rintro e w2 ⟨rfl, hB⟩; replace H := H.next hB; clear hB) | fail)
    go_ret
    exact ⟨rfl, H.toBelow⟩
set_option maxHeartbeats 2000000 in
theorem rover16_ct (g s : BitVec 8) (b : Bool) (w : World) : Calls Try.prog 15 #[.int .u8 (w8 g), .int .u8 (w8 s), .bool b] w fun e w' => e = .returned (.int .u8 (w8 (placeP g s b))) ∧ Below w.heap.size w w' := by
  have s1 := seen_mod g
  have s2 := seen_mod s
  have e1 := mod16_raw g
  have e2 := mod16_raw s
  have e3 := add16_raw s
  have h3 := w8_lt (16#8 + (s &&& 15#8))
  obtain ⟨g0, g1⟩ := w8_lt g
  obtain ⟨t0, t1⟩ := w8_lt s
  rw [placeO_at]
  generalize w8 (16#8 + (s &&& 15#8)) = y at *
  generalize w8 (g &&& 15#8) = u at *
  generalize w8 (s &&& 15#8) = z at *
  generalize w8 g = G at *
  generalize w8 s = S at *
  obtain ⟨h30, h31⟩ := h3
  generalize seenP g = p at *
  generalize seenP s = q at *
  have f1 : decide (G % 4 = 0) = !p := by rw [← s1]; by_cases h : G % 4 = 0 <;> simp [h]
  have f2 : decide (S % 4 = 0) = !q := by rw [← s2]; by_cases h : S % 4 = 0 <;> simp [h]
  have H := Mem.start w
  cases p <;> cases q <;> cases b
  all_goals
    simp only [Bool.not_true, Bool.not_false, decide_eq_true_eq, decide_eq_false_iff_not] at f1 f2
    go_enter Try.func15, Try.ntmps15
    go_wp2
    go_ret
    exact ⟨by first | rfl | (rw [e1]; rfl) | (rw [← e1]; rfl) | (rw [← e3]; rfl) | (rw [← e3, ← e2]; rfl) | (simp [placeO, e1, e2, e3, IntKind.wrap_u8]; done) | (simp [placeO, e1, e2, e3, IntKind.wrap_u8]; omega), H.toBelow⟩
set_option maxHeartbeats 2000000 in
theorem rhit16_ct (g s : BitVec 8) (x : Int) (w : World) : Calls Try.prog 17 #[.int .u8 (w8 g), .int .u8 (w8 s), .int .i64 x] w fun e w' => e = .returned (.bool (hitP g s x)) ∧ Below w.heap.size w w' := by
  have s1 := seen_mod g
  have s2 := seen_mod s
  obtain ⟨g0, g1⟩ := w8_lt g
  obtain ⟨t0, t1⟩ := w8_lt s
  generalize w8 g = G at *
  generalize w8 s = S at *
  unfold hitP
  generalize seenP g = p at *
  generalize seenP s = q at *
  have f1 : decide (G % 4 = 0) = !p := by rw [← s1]; by_cases h : G % 4 = 0 <;> simp [h]
  have f2 : decide (S % 4 = 0) = !q := by rw [← s2]; by_cases h : S % 4 = 0 <;> simp [h]
  have H := Mem.start w
  by_cases hx : x = 255
  · subst hx
    cases p <;> cases q
    all_goals
      simp only [Bool.not_true, Bool.not_false, decide_eq_true_eq, decide_eq_false_iff_not] at f1 f2
      go_enter Try.func17, Try.ntmps17
      go_wp2
      go_ret
      exact ⟨rfl, H.toBelow⟩
  · rw [decide_eq_false hx]
    have hx2 : (x != 255) = true := by simpa using hx
    cases p <;> cases q
    all_goals
      simp only [Bool.not_true, Bool.not_false, decide_eq_true_eq, decide_eq_false_iff_not] at f1 f2
      go_enter Try.func17, Try.ntmps17
      go_wp2
      go_ret
      exact ⟨by first | rfl | (rw [hx2]; rfl) | (simp [hx]; done) | (simp [hx, f1, f2]; done), H.toBelow⟩
end Go.Proofs.Ytkmmmnoipgdedaa
