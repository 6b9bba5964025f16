/-
  Contracts of package cells' Alike (by slices.EqualFunc) and In (by slices.ContainsFunc). Over this seat's translation; no condition.
-/
import Derived.Test.YtinbankkpbdlbaaCla
import Derived.Shelf.Abstract
namespace Go.Proofs.Ytinbankkpbdlbaa
open Go.RowKit

set_option maxHeartbeats 2000000 in
theorem equalf_ct (sv tv : Value) (l m : List (Int × Bool)) (w : World) (hr : Rd w sv l) (hs : Rd w tv m) :
    Calls Try.prog 49 #[sv, tv, .func (.func 50) #[] #[]] w fun e w' => e = .returned (.bool (alikeL l m)) ∧ Below w.heap.size w w' := by
  by_cases hl : l.length = m.length
  · have Hr := Lib.hid hr
    have Hs := Lib.hid hs
    obtain ⟨sa, cap, rfl, hcap, hn, hr⟩ := hr
    obtain ⟨ta, cap2, rfl, hcap2, hn2, hs⟩ := hs
    unfold maxLen at hn hn2
    have hw : ∀ k, k < l.length → ∃ b off c off2, sa = some ⟨b, off, none⟩ ∧ ta = some ⟨c, off2, none⟩ ∧ b < w.heap.size ∧ c < w.heap.size ∧ (w.cell? ⟨b, off + k * 2, none⟩ = some (.int .u8 (nth l k).1) ∧ w.cell? ⟨b, off + k * 2 + 1, none⟩ = some (.bool (nth l k).2)) ∧ (w.cell? ⟨c, off2 + k * 2, none⟩ = some (.int .u8 (nth m k).1) ∧ w.cell? ⟨c, off2 + k * 2 + 1, none⟩ = some (.bool (nth m k).2)) := fun k hk => by
      rcases hr with rfl | ⟨b, off, rfl, hb, hc⟩
      · simp at hk
      rcases hs with rfl | ⟨c, off2, rfl, hb2, hc2⟩
      · simp at hl; simp [hl] at hk
      exact ⟨b, off, c, off2, rfl, rfl, hb, hb2, hc k hk, hc2 k (by omega)⟩
    have Hw := Lib.hid hw
    clear hw hr hs Hr Hs
    have hd := fun k (h : k < l.length) => alikeL_drop l m k h (by omega)
    have Hd := Lib.hid hd
    have He := Lib.hid (alikeL_end l m l.length (by omega) (by omega))
    clear hd
    have lm : m.length = l.length := hl.symm
    rw [lm] at hcap2
    simp only [lm]
    clear lm hl
    have H0 : Hid (alikeL l m = alikeL (l.drop 0) (m.drop 0)) := rfl
    generalize hres : alikeL l m = res at *
    clear hres
    go_enter Try.func49, Try.ntmps49
    go_wp2
    go_loopw [7, 17] (fun _ i wr => ∃ (k : Nat), k ≤ l.length ∧ i = .int .i64 k ∧ Hid (res = alikeL (l.drop k) (m.drop k)) ∧ Below w.heap.size w wr) (fun _ i _ => l.length - (intOf i).toNat)
    case atStart => exact ⟨0, Nat.zero_le _, rfl, H0, Below.refl _ _⟩
    case round =>
      obtain ⟨k, hk, rfl, he, hB⟩ := hrel
      by_cases hlt : k < l.length
      · obtain ⟨b, off, c, off2, rfl, rfl, hb, hb2, ⟨h1, h2⟩, ⟨g1, g2⟩⟩ := Hw.out k hlt
        rw [← hB.cell hb] at h1 h2
        rw [← hB.cell hb2] at g1 g2
        have hne : b ≠ wr.heap.size := by have := hB.size; omega
        have hlb : b < wr.heap.size := by have := hB.size; omega
        have hlc : c < wr.heap.size := by have := hB.size; omega
        have hne2 : c ≠ wr.heap.size := by omega
        have hne3 : c ≠ wr.heap.size + 1 := by have := hB.size; omega
        have hs := he.out
        rw [Hd.out k hlt] at hs
        generalize (nth l k).1 = x1 at *
        generalize (nth l k).2 = s1 at *
        generalize (nth m k).1 = x2 at *
        generalize (nth m k).2 = s2 at *
        have hf := fun W => alike_ct x1 x2 s1 s2 W
        clear Hw Hd he He
        have hB' := ((hB.alloc hB.size (.cells #[.int .u8 x1, .bool s1] 41)).alloc (by have := hB.size; simp; omega) (.cells #[.int .u8 x2, .bool s2] 41))
        cases ha : alikeB x1 s1 x2 s2
        · rw [ha] at hf hs
          rw [Bool.false_and] at hs
          have Hs := Lib.hid hs
          clear hs ha
          go_wp2_with (go_at_call 50; refine (hf _).mono ?_; rintro e w1 ⟨rfl, hB1⟩)
          go_ret
          exact ⟨by rw [Hs.out]; rfl, hB'.next hB1⟩
        · rw [ha] at hf hs
          rw [Bool.true_and] at hs
          have Hs := Lib.hid hs
          clear hs ha
          go_wp2_with (go_at_call 50; refine (hf _).mono ?_; rintro e w1 ⟨rfl, hB1⟩)
          go_roundw
          case rel => exact ⟨k + 1, by omega, by go_num, Hs, hB'.next hB1⟩
          case measure => simp [intOf]; omega
      · obtain rfl : k = l.length := by omega
        have Hs : Hid (res = true) := he.out.trans He.out
        clear he He Hd Hw
        go_wp2
        go_ret
        exact ⟨by rw [Hs.out]; rfl, hB⟩
  · rw [alikeL_len l m hl]
    obtain ⟨sa, cap, rfl, hcap, hn, hr⟩ := hr
    obtain ⟨ta, cap2, rfl, hcap2, hn2, hs⟩ := hs
    unfold maxLen at hn hn2
    clear hr hs
    go_enter Try.func49, Try.ntmps49
    go_wp2
    go_ret
    exact ⟨rfl, (by repeat' (first | exact Below.refl _ _ | (refine Below.setCell ?_ (by first | (simp; done) | (simp; omega) | omega) _) | (refine Below.drew ?_) | (refine Below.drewN ?_ _) | (refine Below.alloc ?_ (by first | (simp; done) | (simp; omega) | omega) _)))⟩
theorem alikeL_ct (sv tv : Value) (l m : List (Int × Bool)) (w : World) (hr : Rd w sv l) (hs : Rd w tv m) :
    Calls Try.prog 29 #[sv, tv] w fun e w' => e = .returned (.bool (alikeL l m)) ∧ Below w.heap.size w w' := by
  have hf := equalf_ct sv tv l m w hr hs
  clear hr hs
  generalize alikeL l m = res at *
  go_enter Try.func29, Try.ntmps29
  go_wp2_with (go_at_call 49; refine hf.mono ?_; rintro e w1 ⟨rfl, hB1⟩)
  go_ret
  exact ⟨rfl, hB1⟩

/-! ### in one of them -/
set_option maxHeartbeats 1000000 in
/-- The closure that asks one range. -/
theorem inone_ct (a b x : Int) (B : Nat) (w : World) (hB : B < w.heap.size) (hc : w.cell? ⟨B, 0, none⟩ = some (.int .i64 x)) :
    Calls Try.prog 40 #[.agg #[.int .i64 a, .int .i64 b], .pointer (some ⟨B, 0, none⟩)] w fun e w' => e = .returned (.bool (inR (a, b) x)) ∧ Below w.heap.size w w' := by
  have hne : B ≠ w.heap.size := by omega
  by_cases h1 : a ≤ x
  · by_cases h2 : x ≤ b
    · rw [(inR_iff (a, b) x).2 ⟨h1, h2⟩]
      go_enter Try.func40, Try.ntmps40
      go_wp2
      go_ret
      exact ⟨rfl, (by repeat' (first | exact Below.refl _ _ | (refine Below.setCell ?_ (by first | (simp; done) | (simp; omega) | omega) _) | (refine Below.drew ?_) | (refine Below.drewN ?_ _) | (refine Below.alloc ?_ (by first | (simp; done) | (simp; omega) | omega) _)))⟩
    · have hv : inR (a, b) x = false := by simp [inR, h2]
      rw [hv]; clear hv
      go_enter Try.func40, Try.ntmps40
      go_wp2
      go_ret
      exact ⟨rfl, (by repeat' (first | exact Below.refl _ _ | (refine Below.setCell ?_ (by first | (simp; done) | (simp; omega) | omega) _) | (refine Below.drew ?_) | (refine Below.drewN ?_ _) | (refine Below.alloc ?_ (by first | (simp; done) | (simp; omega) | omega) _)))⟩
  · have hv : inR (a, b) x = false := by simp [inR, h1]
    rw [hv]; clear hv
    go_enter Try.func40, Try.ntmps40
    go_wp2
    go_ret
    exact ⟨rfl, (by repeat' (first | exact Below.refl _ _ | (refine Below.setCell ?_ (by first | (simp; done) | (simp; omega) | omega) _) | (refine Below.drew ?_) | (refine Below.drewN ?_ _) | (refine Below.alloc ?_ (by first | (simp; done) | (simp; omega) | omega) _)))⟩
/-- Where the first one is, or -1. -/
def IdxP (l : List (Int × Int)) (x : Int) (w : World) (e : Ending) (w' : World) : Prop := ∃ i : Int, e = .returned (.int .i64 i) ∧ decide (0 ≤ i) = inB l x ∧ Below w.heap.size w w'
theorem inB_skip (l : List (Int × Int)) (x a b : Int) (k : Nat) (h : k < l.length) (hn : nthR l k = (a, b)) (he : inB l x = inB (l.drop k) x) : inB l x = (inR (a, b) x || inB (l.drop (k + 1)) x) := by
  rw [he, drop_cons' l k (0, 0) h, show l.getD k (0, 0) = (a, b) from hn]
  rfl
set_option maxHeartbeats 2000000 in
theorem indexf_ct (sv : Value) (l : List (Int × Int)) (x : Int) (B : Nat) (w : World) (hr : Rg w sv l) (hB0 : B < w.heap.size) (hcx : w.cell? ⟨B, 0, none⟩ = some (.int .i64 x)) :
    Calls Try.prog 57 #[sv, .func (.func 40) #[] #[.pointer (some ⟨B, 0, none⟩)]] w (IdxP l x w) := by
  obtain ⟨sa, cap, rfl, hcap, hn, hr⟩ := hr
  unfold maxLen at hn
  have Hr := Lib.hid hr
  clear hr
  have Hx := Lib.hid hcx
  clear hcx
  go_enter Try.func57, Try.ntmps57
  go_wp2
  go_loopw [5, 8] (fun _ i wr => ∃ (k : Nat), k ≤ l.length ∧ i = .int .i64 k ∧ Hid (inB l x = inB (l.drop k) x) ∧ Below w.heap.size w wr) (fun _ i _ => l.length - (intOf i).toNat)
  case atStart => exact ⟨0, Nat.zero_le _, rfl, by simp [Hid], Below.refl _ _⟩
  case round =>
    obtain ⟨k, hk, rfl, he, hB⟩ := hrel
    by_cases hlt : k < l.length
    · rcases Hr.out with rfl | ⟨b0, off, rfl, hb, hc⟩
      · simp at hlt
      obtain ⟨h1, h2⟩ := hc k hlt
      clear hc
      rw [← hB.cell hb] at h1 h2
      obtain ⟨a, b, hab⟩ : ∃ a b, nthR l k = (a, b) := ⟨_, _, rfl⟩
      have hs := inB_skip l x a b k hlt hab he.out
      rw [hab] at h1 h2
      dsimp only at h1 h2
      have hf := inone_ct a b x B wr (Nat.lt_of_lt_of_le hB0 hB.size) (by rw [hB.cell (p := ⟨B, 0, none⟩) hB0]; exact Hx.out)
      clear hab he Hr Hx
      cases ha : inR (a, b) x
      · rw [ha] at hf hs
        rw [Bool.false_or] at hs
        have Hs := Lib.hid hs
        clear hs ha
        go_wp2_with (go_at_call 40; refine hf.mono ?_; rintro e w1 ⟨rfl, hB1⟩)
        go_roundw
        case rel => exact ⟨k + 1, by omega, by go_num, Hs, hB.next hB1⟩
        case measure => simp [intOf]; omega
      · rw [ha] at hf hs
        rw [Bool.true_or] at hs
        have Hs := Lib.hid hs
        clear hs ha
        go_wp2_with (go_at_call 40; refine hf.mono ?_; rintro e w1 ⟨rfl, hB1⟩)
        go_ret
        exact ⟨k, rfl, by rw [Hs.out]; simp, hB.next hB1⟩
    · have Hs : Hid (inB l x = false) := by rw [List.drop_of_length_le (by omega)] at he; exact he
      clear he Hr Hx
      go_wp2
      go_ret
      exact ⟨-1, rfl, by rw [Hs.out]; rfl, hB⟩
set_option maxHeartbeats 1000000 in
theorem containsf_ct (sv : Value) (l : List (Int × Int)) (x : Int) (B : Nat) (w : World) (hr : Rg w sv l) (hB0 : B < w.heap.size) (hcx : w.cell? ⟨B, 0, none⟩ = some (.int .i64 x)) :
    Calls Try.prog 39 #[sv, .func (.func 40) #[] #[.pointer (some ⟨B, 0, none⟩)]] w fun e w' => e = .returned (.bool (inB l x)) ∧ Below w.heap.size w w' := by
  have hf := indexf_ct sv l x B w hr hB0 hcx
  clear hr hcx
  go_enter Try.func39, Try.ntmps39
  go_wp2_with fail
  refine hf.mono ?_
  rintro e w1 ⟨i, rfl, hi, hB1⟩
  have Hi := Lib.hid hi
  clear hi hf
  go_wp2
  go_ret
  exact ⟨by rw [← Hi.out]; rfl, hB1⟩
set_option maxHeartbeats 1000000 in
theorem in_ct (sv : Value) (x : Int) (l : List (Int × Int)) (w : World) (hr : Rg w sv l) :
    Calls Try.prog 13 #[sv, .int .i64 x] w fun e w' => e = .returned (.bool (inB l x)) ∧ Below w.heap.size w w' := by
  have hb0 : Below w.heap.size w (w.alloc (.cells #[.int .i64 x] 3)) := (by repeat' (first | exact Below.refl _ _ | (refine Below.setCell ?_ (by first | (simp; done) | (simp; omega) | omega) _) | (refine Below.drew ?_) | (refine Below.drewN ?_ _) | (refine Below.alloc ?_ (by first | (simp; done) | (simp; omega) | omega) _)))
  have hf := containsf_ct sv l x w.heap.size (w.alloc (.cells #[.int .i64 x] 3)) (hr.below hb0) (by simp) (by simp [go_sem])
  clear hr
  generalize inB l x = r at *
  go_enter Try.func13, Try.ntmps13
  go_wp2_with fail
  refine hf.mono ?_
  rintro e w1 ⟨rfl, hB1⟩
  go_wp2
  go_ret
  exact ⟨rfl, hb0.next hB1⟩
end Go.Proofs.Ytinbankkpbdlbaa
