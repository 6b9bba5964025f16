/-
  Contracts of the document's plain answers that read cells, and of the laws' own helpers: whether two are the same, whether ranges may be, and no more than are looked at. Over this seat's translation; no condition.
-/
import Derived.Test.YtjiilcnbajcdhaaRgb
import Derived.Lib.QuietBelow
namespace Go.Proofs.Ytjiilcnbajcdhaa
open Go.RowKit

theorem stood_byte : Try.prog.stoodInHeld 61 = false := by kernel_rfl
theorem struct_byte : Try.prog.underlying 61 = some (.struct (Try.prog.fieldsOf 61)) := by kernel_rfl
theorem neq_byte (a c : Int) (b d : Bool) (w : World) : (binOp .neq 61 (.agg #[.int .u8 a, .bool b]) (.agg #[.int .u8 c, .bool d])).run Try.prog w = .ok (.bool (!(a == c && b == d))) w := by
  have u3 := Try.underlying5
  have a3 := Try.isAgg5
  have z3 := Try.sizeOf5
  have u4 := Try.underlying4
  have a4 := Try.isAgg4
  have z4 := Try.sizeOf4
  rw [run_neq_struct, show (10000 : Nat) = 9999 + 1 from rfl, run_equalIn_agg w 9999 61 _ _ struct_byte stood_byte]
  simp only [Program.fieldsOf, Try.underlying61]
  go_simp
  cases b <;> cases d <;> by_cases h1 : a = c <;> simp [h1]

set_option maxHeartbeats 2000000 in
theorem rsame_ct (sv tv : Value) (l m : List (Int × Bool)) (w : World) (hr : Rd w sv l) (hs : Rd w tv m) :
    Calls Try.prog 15 #[sv, tv] w fun e w' => e = .returned (.bool (eqL l m)) ∧ Below w.heap.size w w' := by
  obtain ⟨sa, cap, rfl, hcap, hn, hr⟩ := hr
  obtain ⟨ta, cap2, rfl, hcap2, hn2, hs⟩ := hs
  unfold maxLen at hn hn2
  by_cases hl : l.length = m.length
  · rcases hr with rfl | ⟨sb, off, rfl, hb, hc⟩
    · obtain rfl : m = [] := List.length_eq_zero_iff.1 hl.symm
      go_enter Try.func15, Try.ntmps15
      go_wp2
      go_loopw [5] (fun i wr => i = .int .i64 0 ∧ wr = w) (fun i _ => 0)
      case atStart => exact ⟨rfl, rfl⟩
      case round =>
        obtain ⟨rfl, rfl⟩ := hrel
        go_wp2
        go_ret
        exact ⟨rfl, Below.refl _ _⟩
    · rcases hs with rfl | ⟨tb, off2, rfl, hb2, hc2⟩
      · obtain rfl : l = [] := List.length_eq_zero_iff.1 hl
        go_enter Try.func15, Try.ntmps15
        go_wp2
        go_loopw [5] (fun i wr => i = .int .i64 0 ∧ wr = w) (fun i _ => 0)
        case atStart => exact ⟨rfl, rfl⟩
        case round =>
          obtain ⟨rfl, rfl⟩ := hrel
          go_wp2
          go_ret
          exact ⟨rfl, Below.refl _ _⟩
      · have Hc := Lib.hid hc
        have Hc2 := Lib.hid hc2
        clear hc hc2
        have Hend := Lib.hid (eqL_end l m (0, false) hl)
        have Hno := Lib.hid (eqL_no l m (0, false))
        generalize hres : eqL l m = res at *
        clear hres
        have lm : m.length = l.length := hl.symm
        rw [lm] at hcap2
        simp only [lm]
        clear lm
        have Hl := Lib.hid hl
        clear hl
        go_enter Try.func15, Try.ntmps15
        go_wp2
        go_loopw [5] (fun i wr => ∃ (k : Nat), k ≤ l.length ∧ i = .int .i64 k ∧ Hid (∀ j, j < k → l.getD j (0, false) = m.getD j (0, false)) ∧ Below w.heap.size w wr) (fun i _ => l.length - (intOf i).toNat)
        case atStart => exact ⟨0, Nat.zero_le _, rfl, fun j hj => absurd hj (by omega), Below.refl _ _⟩
        case round =>
          obtain ⟨k, hk, rfl, he, hB⟩ := hrel
          by_cases hlt : k < l.length
          · obtain ⟨h1, h2⟩ := Hc.out k hlt
            obtain ⟨g1, g2⟩ := Hc2.out k (by rw [← Hl.out]; exact hlt)
            rw [← hB.cell hb] at h1 h2
            rw [← hB.cell hb2] at g1 g2
            obtain ⟨a, b, hab⟩ : ∃ a b, nth l k = (a, b) := ⟨_, _, rfl⟩
            obtain ⟨c, d, hcd⟩ : ∃ a b, nth m k = (a, b) := ⟨_, _, rfl⟩
            rw [hab] at h1 h2
            rw [hcd] at g1 g2
            dsimp only at h1 h2 g1 g2
            by_cases hq : a = c ∧ b = d
            · obtain ⟨rfl, rfl⟩ := hq
              have He : Hid (∀ j, j < k + 1 → l.getD j (0, false) = m.getD j (0, false)) := fun j hj => by
                by_cases ej : j = k
                · subst ej; exact hab.trans hcd.symm
                · exact he.out j (by omega)
              clear he hab hcd Hc Hc2
              go_wp2_with fail
              go_quiet (fail)
              go_wp2
              go_roundw
              case rel => exact ⟨k + 1, by omega, by go_num, He, below_drewN hB _⟩
              case measure => simp [intOf]; omega
            · have hres := Hno.out k (by rw [show l.getD k (0, false) = (a, b) from hab, show m.getD k (0, false) = (c, d) from hcd]; intro e; exact hq (Prod.mk.injEq .. ▸ e))
              have Hres := Lib.hid hres
              clear he hab hcd Hc Hc2 hres
              have hq' : ∀ w, (binOp .neq 61 (.agg #[.int .u8 a, .bool b]) (.agg #[.int .u8 c, .bool d])).run Try.prog w = .ok (.bool true) w := fun w => by
                rw [neq_byte, show (a == c && b == d) = false from by simp; intro e f; exact hq ⟨e, f⟩]
                rfl
              clear hq
              go_wp2_with fail
              go_quiet (fail)
              go_wp2
              go_ret
              exact ⟨by rw [Hres.out]; rfl, below_drewN hB _⟩
          · have Hs := Lib.hid (Hend.out fun j hj => he.out j (by omega))
            clear Hc he Hc2
            go_wp2
            go_ret
            exact ⟨by rw [Hs.out]; rfl, hB⟩
  · rw [eqL_len l m hl]
    clear hr hs
    go_enter Try.func15, Try.ntmps15
    go_wp2
    go_ret
    exact ⟨rfl, (by repeat' (first | exact Below.refl _ _ | (refine Below.setCell ?_ (by first | (simp; done) | (simp; omega) | omega) _) | (refine Below.drew ?_) | (refine Below.drewN ?_ _) | (refine Below.alloc ?_ (by first | (simp; done) | (simp; omega) | omega) _)))⟩

/-! ### which ranges may be: the document's answer -/
def leastAt (l : List (Int × Int)) : Nat → Int
  | 0 => 0
  | k + 1 => (nthR l k).2 + 2
def wholeAt (l : List (Int × Int)) : Nat → Prop
  | 0 => True
  | k + 1 => wholeB (nthR l k) = true
set_option maxHeartbeats 4000000 in
theorem rmay_ct (sv : Value) (l : List (Int × Int)) (w : World) (hr : Rg w sv l) :
    Calls Try.prog 48 #[sv] w fun e w' => e = .returned (.bool (mayB 0 l)) ∧ Below w.heap.size w w' := by
  obtain ⟨sa, cap, rfl, hcap, hn, hr⟩ := hr
  unfold maxLen at hn
  rcases hr with rfl | ⟨sb, off, rfl, hb, hc⟩
  · go_enter Try.func48, Try.ntmps48
    go_wp2
    go_loopw [3] (fun i wr => i = .int .i64 0 ∧ wr = w) (fun i _ => 0)
    case atStart => exact ⟨rfl, rfl⟩
    case round =>
      obtain ⟨rfl, rfl⟩ := hrel
      go_wp2
      go_ret
      exact ⟨rfl, Below.refl _ _⟩
  have Hc := Lib.hid hc
  clear hc
  go_enter Try.func48, Try.ntmps48
  go_wp2
  go_loopw [3] (fun i wr => ∃ (k : Nat), k ≤ l.length ∧ i = .int .i64 k ∧ Hid (mayB 0 l = mayB (leastAt l k) (l.drop k)) ∧ Hid (wholeAt l k) ∧ Below w.heap.size w wr) (fun i _ => l.length - (intOf i).toNat)
  case atStart => exact ⟨0, Nat.zero_le _, rfl, by simp [Hid, leastAt], trivial, Below.refl _ _⟩
  case round =>
    obtain ⟨k, hk, rfl, he, hwa, hB⟩ := hrel
    by_cases hlt : k < l.length
    · obtain ⟨h1, h2⟩ := Hc.out k hlt
      rw [← hB.cell hb] at h1 h2
      obtain ⟨a, b, hab⟩ : ∃ a b, nthR l k = (a, b) := ⟨_, _, rfl⟩
      have hs := may_step l k (leastAt l k) a b hlt hab he.out
      have hwn : wholeB (a, b) = true → wholeAt l (k + 1) := fun h => by show wholeB (nthR l k) = true; rw [hab]; exact h
      have hln : leastAt l (k + 1) = b + 2 := by show (nthR l k).2 + 2 = b + 2; rw [hab]
      rw [hab] at h1 h2
      dsimp only at h1 h2
      have hf := fun W => whole_ct a b W
      have lb : sb < wr.heap.size := Nat.lt_of_lt_of_le hb hB.size
      cases k with
      | zero =>
        clear hab he hwa
        simp only [Nat.zero_mul, Nat.add_zero] at h1 h2
        cases hw : wholeB (a, b)
        · rw [hw] at hf
          rw [hw, Bool.false_and] at hs
          have Hs := Lib.hid hs
          clear hs hw Hc hwn hln
          have q1 := cell_regrown h1
          have q2 := cell_regrown h2
          go_wp2_with fail
          (refine wp_region_quiet_below (by kernel_rfl) (by kernel_rfl) ?_); (repeat (go_big_quiet_step (((go_at_call 57; exact Calls.regrown_of (hf _)))))); (refine wpQuiet_nil ?_); intro _ hw'; obtain ⟨⟨dq, osq⟩, hw''⟩ := hw'; (subst hw''); have hq := below_regrown wr dq osq; generalize Go.Sort.grow (redrawn wr dq) osq = wq at hq ⊢
          go_wp2
          go_ret
          exact ⟨by rw [Hs.out]; rfl, hB.next hq⟩
        · rw [hw] at hf
          have h0 := (wholeB_iff _).1 hw
          dsimp only at h0
          rw [hw, Bool.true_and, decide_eq_true (show leastAt l 0 ≤ a from h0.1), Bool.true_and, ← hln] at hs
          have Hs := Lib.hid hs
          have Hw := Lib.hid (hwn hw)
          clear hs hw Hc hwn hln h0
          have q1 := cell_regrown h1
          have q2 := cell_regrown h2
          go_wp2_with fail
          (refine wp_region_quiet_below (by kernel_rfl) (by kernel_rfl) ?_); (repeat (go_big_quiet_step (((go_at_call 57; exact Calls.regrown_of (hf _)))))); (refine wpQuiet_nil ?_); intro _ hw'; obtain ⟨⟨dq, osq⟩, hw''⟩ := hw'; (subst hw''); have hq := below_regrown wr dq osq; generalize Go.Sort.grow (redrawn wr dq) osq = wq at hq ⊢
          go_wp2
          go_roundw
          case rel => exact ⟨0 + 1, by omega, by go_num, Hs, Hw, hB.next hq⟩
          case measure => simp [intOf]; omega
      | succ j =>
        obtain ⟨_, g2⟩ := Hc.out j (by omega)
        rw [← hB.cell hb] at g2
        have hwj : wholeB (nthR l j) = true := hwa.out
        have hm : leastAt l (j + 1) = (nthR l j).2 + 2 := rfl
        obtain ⟨c, d, hcd⟩ : ∃ c d, nthR l j = (c, d) := ⟨_, _, rfl⟩
        rw [hcd] at g2 hwj hm
        dsimp only at g2 hm
        obtain ⟨d0, d1, d2⟩ := (wholeB_iff _).1 hwj
        dsimp only at d0 d1 d2
        rw [hm] at hs
        clear hab he hwa hcd hwj hm
        have q1 := cell_regrown h1
        have q2 := cell_regrown h2
        have q3 := cell_regrown g2
        cases hw : wholeB (a, b)
        · rw [hw] at hf
          rw [hw, Bool.false_and] at hs
          have Hs := Lib.hid hs
          clear hs hw Hc hwn hln
          go_wp2_with fail
          (refine wp_region_quiet_below (by kernel_rfl) (by kernel_rfl) ?_); (repeat (go_big_quiet_step (((go_at_call 57; exact Calls.regrown_of (hf _)))))); (refine wpQuiet_nil ?_); intro _ hw'; obtain ⟨⟨dq, osq⟩, hw''⟩ := hw'; (subst hw''); have hq := below_regrown wr dq osq; generalize Go.Sort.grow (redrawn wr dq) osq = wq at hq ⊢
          go_wp2
          go_ret
          exact ⟨by rw [Hs.out]; rfl, hB.next hq⟩
        · rw [hw] at hf
          obtain ⟨a0, a1, a2⟩ := (wholeB_iff _).1 hw
          dsimp only at a0 a1 a2
          rw [hw, Bool.true_and] at hs
          by_cases hm : d + 2 ≤ a
          · rw [decide_eq_true hm, Bool.true_and, ← hln] at hs
            have Hs := Lib.hid hs
            have Hw := Lib.hid (hwn hw)
            clear hs hw Hc hwn hln
            go_wp2_with fail
            (refine wp_region_quiet_below (by kernel_rfl) (by kernel_rfl) ?_); (repeat (go_big_quiet_step (((go_at_call 57; exact Calls.regrown_of (hf _)))))); (refine wpQuiet_nil ?_); intro _ hw'; obtain ⟨⟨dq, osq⟩, hw''⟩ := hw'; (subst hw''); have hq := below_regrown wr dq osq; generalize Go.Sort.grow (redrawn wr dq) osq = wq at hq ⊢
            go_wp2
            go_roundw
            case rel => exact ⟨j + 1 + 1, by omega, by go_num, Hs, Hw, hB.next hq⟩
            case measure => simp [intOf]; omega
          · rw [decide_eq_false hm, Bool.false_and] at hs
            have Hs := Lib.hid hs
            clear hs hw Hc hwn hln
            go_wp2_with fail
            (refine wp_region_quiet_below (by kernel_rfl) (by kernel_rfl) ?_); (repeat (go_big_quiet_step (((go_at_call 57; exact Calls.regrown_of (hf _)))))); (refine wpQuiet_nil ?_); intro _ hw'; obtain ⟨⟨dq, osq⟩, hw''⟩ := hw'; (subst hw''); have hq := below_regrown wr dq osq; generalize Go.Sort.grow (redrawn wr dq) osq = wq at hq ⊢
            go_wp2
            go_ret
            exact ⟨by rw [Hs.out]; rfl, hB.next hq⟩
    · have Hs := Lib.hid (may_end l k _ hlt he.out)
      clear Hc he
      go_wp2
      go_ret
      exact ⟨by rw [Hs.out]; rfl, hB⟩
end Go.Proofs.Ytjiilcnbajcdhaa
