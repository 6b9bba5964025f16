/-
  Contracts of the document's plain answers that read cells, and of the laws' own helpers: whether two are the same, whether ranges may be, and no more than are looked at. Over this seat's translation; no condition.
-/
import Derived.Test.YtdafilfnmdfacaaRgb
import Derived.Lib.QuietBelow
namespace Go.Proofs.Ytdafilfnmdfacaa
open Go.RowKit

/-! ### which ranges may be: the document's answer -/
def leastAt (l : List (Int × Int)) : Nat → Int
  | 0 => 0
  | k + 1 => (nthR l k).2 + 2
def wholeAt (l : List (Int × Int)) : Nat → Prop
  | 0 => True
  | k + 1 => wholeB (nthR l k) = true
set_option maxHeartbeats 4000000 in
theorem rmay_ct (sv : Value) (l : List (Int × Int)) (w : World) (hr : Rg w sv l) :
    Calls Try.prog 26 #[sv] w fun e w' => e = .returned (.bool (mayB 0 l)) ∧ Below w.heap.size w w' := by
  obtain ⟨sa, cap, rfl, hcap, hn, hr⟩ := hr
  unfold maxLen at hn
  rcases hr with rfl | ⟨sb, off, rfl, hb, hc⟩
  · go_enter Try.func26, Try.ntmps26
    go_wp2
    go_loopw [3] (fun i wr => i = .int .i64 0 ∧ wr = w) (fun i _ => 0)
    case atStart => exact ⟨rfl, rfl⟩
    case round =>
      obtain ⟨rfl, rfl⟩ := hrel
      go_wp2
      go_ret
      exact ⟨rfl, Below.refl _ _⟩
  have Hc := Lib.hid hc
  clear hc
  go_enter Try.func26, Try.ntmps26
  go_wp2
  go_loopw [3] (fun i wr => ∃ (k : Nat), k ≤ l.length ∧ i = .int .i64 k ∧ Hid (mayB 0 l = mayB (leastAt l k) (l.drop k)) ∧ Hid (wholeAt l k) ∧ Below w.heap.size w wr) (fun i _ => l.length - (intOf i).toNat)
  case atStart => exact ⟨0, Nat.zero_le _, rfl, by simp [Hid, leastAt], trivial, Below.refl _ _⟩
  case round =>
    obtain ⟨k, hk, rfl, he, hwa, hB⟩ := hrel
    by_cases hlt : k < l.length
    · obtain ⟨h1, h2⟩ := Hc.out k hlt
      rw [← hB.cell hb] at h1 h2
      obtain ⟨a, b, hab⟩ : ∃ a b, nthR l k = (a, b) := ⟨_, _, rfl⟩
      have hs := may_step l k (leastAt l k) a b hlt hab he.out
      have hwn : wholeB (a, b) = true → wholeAt l (k + 1) := fun h => by show wholeB (nthR l k) = true; rw [hab]; exact h
      have hln : leastAt l (k + 1) = b + 2 := by show (nthR l k).2 + 2 = b + 2; rw [hab]
      rw [hab] at h1 h2
      dsimp only at h1 h2
      have hf := fun W => whole_ct a b W
      have lb : sb < wr.heap.size := Nat.lt_of_lt_of_le hb hB.size
      cases k with
      | zero =>
        clear hab he hwa
        simp only [Nat.zero_mul, Nat.add_zero] at h1 h2
        cases hw : wholeB (a, b)
        · rw [hw] at hf
          rw [hw, Bool.false_and] at hs
          have Hs := Lib.hid hs
          clear hs hw Hc hwn hln
          have q1 := cell_regrown h1
          have q2 := cell_regrown h2
          go_wp2_with fail
          (refine wp_region_quiet_below (by kernel_rfl) (by kernel_rfl) ?_); (repeat (go_big_quiet_step (((go_at_call 30; exact Calls.regrown_of (hf _)))))); (refine wpQuiet_nil ?_); intro _ hw'; obtain ⟨⟨dq, osq⟩, hw''⟩ := hw'; (subst hw''); have hq := below_regrown wr dq osq; generalize Go.Sort.grow (redrawn wr dq) osq = wq at hq ⊢
          go_wp2
          go_ret
          exact ⟨by rw [Hs.out]; rfl, hB.next hq⟩
        · rw [hw] at hf
          have h0 := (wholeB_iff _).1 hw
          dsimp only at h0
          rw [hw, Bool.true_and, decide_eq_true (show leastAt l 0 ≤ a from h0.1), Bool.true_and, ← hln] at hs
          have Hs := Lib.hid hs
          have Hw := Lib.hid (hwn hw)
          clear hs hw Hc hwn hln h0
          have q1 := cell_regrown h1
          have q2 := cell_regrown h2
          go_wp2_with fail
          (refine wp_region_quiet_below (by kernel_rfl) (by kernel_rfl) ?_); (repeat (go_big_quiet_step (((go_at_call 30; exact Calls.regrown_of (hf _)))))); (refine wpQuiet_nil ?_); intro _ hw'; obtain ⟨⟨dq, osq⟩, hw''⟩ := hw'; (subst hw''); have hq := below_regrown wr dq osq; generalize Go.Sort.grow (redrawn wr dq) osq = wq at hq ⊢
          go_wp2
          go_roundw
          case rel => exact ⟨0 + 1, by omega, by go_num, Hs, Hw, hB.next hq⟩
          case measure => simp [intOf]; omega
      | succ j =>
        obtain ⟨_, g2⟩ := Hc.out j (by omega)
        rw [← hB.cell hb] at g2
        have hwj : wholeB (nthR l j) = true := hwa.out
        have hm : leastAt l (j + 1) = (nthR l j).2 + 2 := rfl
        obtain ⟨c, d, hcd⟩ : ∃ c d, nthR l j = (c, d) := ⟨_, _, rfl⟩
        rw [hcd] at g2 hwj hm
        dsimp only at g2 hm
        obtain ⟨d0, d1, d2⟩ := (wholeB_iff _).1 hwj
        dsimp only at d0 d1 d2
        rw [hm] at hs
        clear hab he hwa hcd hwj hm
        have q1 := cell_regrown h1
        have q2 := cell_regrown h2
        have q3 := cell_regrown g2
        cases hw : wholeB (a, b)
        · rw [hw] at hf
          rw [hw, Bool.false_and] at hs
          have Hs := Lib.hid hs
          clear hs hw Hc hwn hln
          go_wp2_with fail
          (refine wp_region_quiet_below (by kernel_rfl) (by kernel_rfl) ?_); (repeat (go_big_quiet_step (((go_at_call 30; exact Calls.regrown_of (hf _)))))); (refine wpQuiet_nil ?_); intro _ hw'; obtain ⟨⟨dq, osq⟩, hw''⟩ := hw'; (subst hw''); have hq := below_regrown wr dq osq; generalize Go.Sort.grow (redrawn wr dq) osq = wq at hq ⊢
          go_wp2
          go_ret
          exact ⟨by rw [Hs.out]; rfl, hB.next hq⟩
        · rw [hw] at hf
          obtain ⟨a0, a1, a2⟩ := (wholeB_iff _).1 hw
          dsimp only at a0 a1 a2
          rw [hw, Bool.true_and] at hs
          by_cases hm : d + 2 ≤ a
          · rw [decide_eq_true hm, Bool.true_and, ← hln] at hs
            have Hs := Lib.hid hs
            have Hw := Lib.hid (hwn hw)
            clear hs hw Hc hwn hln
            go_wp2_with fail
            (refine wp_region_quiet_below (by kernel_rfl) (by kernel_rfl) ?_); (repeat (go_big_quiet_step (((go_at_call 30; exact Calls.regrown_of (hf _)))))); (refine wpQuiet_nil ?_); intro _ hw'; obtain ⟨⟨dq, osq⟩, hw''⟩ := hw'; (subst hw''); have hq := below_regrown wr dq osq; generalize Go.Sort.grow (redrawn wr dq) osq = wq at hq ⊢
            go_wp2
            go_roundw
            case rel => exact ⟨j + 1 + 1, by omega, by go_num, Hs, Hw, hB.next hq⟩
            case measure => simp [intOf]; omega
          · rw [decide_eq_false hm, Bool.false_and] at hs
            have Hs := Lib.hid hs
            clear hs hw Hc hwn hln
            go_wp2_with fail
            (refine wp_region_quiet_below (by kernel_rfl) (by kernel_rfl) ?_); (repeat (go_big_quiet_step (((go_at_call 30; exact Calls.regrown_of (hf _)))))); (refine wpQuiet_nil ?_); intro _ hw'; obtain ⟨⟨dq, osq⟩, hw''⟩ := hw'; (subst hw''); have hq := below_regrown wr dq osq; generalize Go.Sort.grow (redrawn wr dq) osq = wq at hq ⊢
            go_wp2
            go_ret
            exact ⟨by rw [Hs.out]; rfl, hB.next hq⟩
    · have Hs := Lib.hid (may_end l k _ hlt he.out)
      clear Hc he
      go_wp2
      go_ret
      exact ⟨by rw [Hs.out]; rfl, hB⟩
end Go.Proofs.Ytdafilfnmdfacaa
