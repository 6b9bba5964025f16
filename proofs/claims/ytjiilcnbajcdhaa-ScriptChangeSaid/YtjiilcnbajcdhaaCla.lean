/-
  Contracts of package cells' functions that only read: In, Load, Alike; of the document's answer for Alike; and of the laws' own Few and Ranges. Over this seat's translation; no condition.
-/
import Derived.Test.YtjiilcnbajcdhaaRgc
namespace Go.Proofs.Ytjiilcnbajcdhaa
open Go.RowKit

theorem Rd.take {w : World} {b off cap : Nat} {l : List (Int × Bool)} (n : Nat) (hn : n ≤ l.length) (hcap : l.length ≤ cap) (hm : cap ≤ maxLen) (hb : b < w.heap.size)
    (hc : ∀ k, k < l.length → w.cell? ⟨b, off + k * 2, none⟩ = some (.int .u8 (nth l k).1) ∧ w.cell? ⟨b, off + k * 2 + 1, none⟩ = some (.bool (nth l k).2)) : Rd w (.slice (some ⟨b, off, none⟩) n cap) (l.take n) := by
  refine ⟨some ⟨b, off, none⟩, cap, by rw [List.length_take, Nat.min_eq_left hn], by rw [List.length_take]; omega, hm, .inr ⟨b, off, rfl, hb, fun k hk => ?_⟩⟩
  rw [List.length_take] at hk
  have e : nth (l.take n) k = nth l k := by
    unfold nth
    rw [List.getD_eq_getElem?_getD, List.getD_eq_getElem?_getD, List.getElem?_take, if_pos (by omega)]
  rw [e]
  exact hc k (by omega)
theorem Rg.take {w : World} {b off cap : Nat} {l : List (Int × Int)} (n : Nat) (hn : n ≤ l.length) (hcap : l.length ≤ cap) (hm : cap ≤ maxLen) (hb : b < w.heap.size)
    (hc : ∀ k, k < l.length → w.cell? ⟨b, off + k * 2, none⟩ = some (.int .i64 (nthR l k).1) ∧ w.cell? ⟨b, off + k * 2 + 1, none⟩ = some (.int .i64 (nthR l k).2)) : Rg w (.slice (some ⟨b, off, none⟩) n cap) (l.take n) := by
  refine ⟨some ⟨b, off, none⟩, cap, by rw [List.length_take, Nat.min_eq_left hn], by rw [List.length_take]; omega, hm, .inr ⟨b, off, rfl, hb, fun k hk => ?_⟩⟩
  rw [List.length_take] at hk
  have e : nthR (l.take n) k = nthR l k := by
    unfold nthR
    rw [List.getD_eq_getElem?_getD, List.getD_eq_getElem?_getD, List.getElem?_take, if_pos (by omega)]
  rw [e]
  exact hc k (by omega)
/-- What 'Few' hands back. -/
def FewB (l : List (Int × Bool)) (w : World) (e : Ending) (w' : World) : Prop := ∃ v, e = .returned v ∧ Rd w v (l.take 300) ∧ w = w'
def FewR (l : List (Int × Int)) (w : World) (e : Ending) (w' : World) : Prop := ∃ v, e = .returned v ∧ Rg w v (l.take 20) ∧ w = w'
set_option maxHeartbeats 400000 in
theorem fewr_ct (sv : Value) (l : List (Int × Int)) (w : World) (hr : Rg w sv l) : Calls Try.prog 27 #[sv] w (FewR l w) := by
  have Hr := Lib.hid hr
  obtain ⟨a, cap, rfl, hcap, hn, hr⟩ := hr
  by_cases h : 20 < l.length
  · rcases hr with rfl | ⟨b, off, rfl, hb, hc⟩
    · simp at h
    have Hfin := Lib.hid (Rg.take 20 (by omega) hcap hn hb hc)
    unfold maxLen at hn
    clear hc Hr hb
    go_enter Try.func27, Try.ntmps27
    go_wp2
    go_ret
    exact ⟨_, rfl, Hfin.out, rfl⟩
  · have E := Lib.hid (show l.take 20 = l from List.take_of_length_le (by omega))
    unfold maxLen at hn
    clear hr
    go_enter Try.func27, Try.ntmps27
    go_wp2
    go_ret
    exact ⟨_, rfl, by rw [E.out]; exact Hr.out, rfl⟩

/-! ### a cell -/
/-! ### alike, one by one -/
def alikeL : List (Int × Bool) → List (Int × Bool) → Bool
  | [], [] => true
  | a :: l, b :: m => alikeB a.1 a.2 b.1 b.2 && alikeL l m
  | _, _ => false
theorem alikeL_len : ∀ (l m : List (Int × Bool)), ¬ l.length = m.length → alikeL l m = false
  | [], [], h => absurd rfl h
  | a :: l, b :: m, h => by rw [alikeL, alikeL_len l m (by simpa using h), Bool.and_false]
  | [], _ :: _, _ => rfl
  | _ :: _, [], _ => rfl
theorem alikeL_drop (l m : List (Int × Bool)) (k : Nat) (h : k < l.length) (g : k < m.length) : alikeL (l.drop k) (m.drop k) = (alikeB (nth l k).1 (nth l k).2 (nth m k).1 (nth m k).2 && alikeL (l.drop (k + 1)) (m.drop (k + 1))) := by
  rw [drop_cons' l k (0, false) h, drop_cons' m k (0, false) g]
  rfl
theorem alikeL_end (l m : List (Int × Bool)) (k : Nat) (h : l.length ≤ k) (g : m.length ≤ k) : alikeL (l.drop k) (m.drop k) = true := by
  rw [List.drop_of_length_le h, List.drop_of_length_le g]
  rfl

set_option maxHeartbeats 2000000 in
theorem ralikeL_ct (sv tv : Value) (l m : List (Int × Bool)) (w : World) (hr : Rd w sv l) (hs : Rd w tv m) :
    Calls Try.prog 19 #[sv, tv] w fun e w' => e = .returned (.bool (alikeL l m)) ∧ Below w.heap.size w w' := by
  by_cases hl : l.length = m.length
  · have Hr := Lib.hid hr
    have Hs := Lib.hid hs
    obtain ⟨sa, cap, rfl, hcap, hn, hr⟩ := hr
    obtain ⟨ta, cap2, rfl, hcap2, hn2, hs⟩ := hs
    unfold maxLen at hn hn2
    have hw : ∀ k, k < l.length → ∃ b off c off2, sa = some ⟨b, off, none⟩ ∧ ta = some ⟨c, off2, none⟩ ∧ b < w.heap.size ∧ c < w.heap.size ∧ (w.cell? ⟨b, off + k * 2, none⟩ = some (.int .u8 (nth l k).1) ∧ w.cell? ⟨b, off + k * 2 + 1, none⟩ = some (.bool (nth l k).2)) ∧ (w.cell? ⟨c, off2 + k * 2, none⟩ = some (.int .u8 (nth m k).1) ∧ w.cell? ⟨c, off2 + k * 2 + 1, none⟩ = some (.bool (nth m k).2)) := fun k hk => by
      rcases hr with rfl | ⟨b, off, rfl, hb, hc⟩
      · simp at hk
      rcases hs with rfl | ⟨c, off2, rfl, hb2, hc2⟩
      · simp at hl; simp [hl] at hk
      exact ⟨b, off, c, off2, rfl, rfl, hb, hb2, hc k hk, hc2 k (by omega)⟩
    have Hw := Lib.hid hw
    clear hw hr hs Hr Hs
    have hd := fun k (h : k < l.length) => alikeL_drop l m k h (by omega)
    have Hd := Lib.hid hd
    have He := Lib.hid (alikeL_end l m l.length (by omega) (by omega))
    clear hd
    have lm : m.length = l.length := hl.symm
    rw [lm] at hcap2
    simp only [lm]
    clear lm hl
    have H0 : Hid (alikeL l m = alikeL (l.drop 0) (m.drop 0)) := rfl
    generalize hres : alikeL l m = res at *
    clear hres
    go_enter Try.func19, Try.ntmps19
    go_wp2
    go_loopw [5] (fun i wr => ∃ (k : Nat), k ≤ l.length ∧ i = .int .i64 k ∧ Hid (res = alikeL (l.drop k) (m.drop k)) ∧ Below w.heap.size w wr) (fun i _ => l.length - (intOf i).toNat)
    case atStart => exact ⟨0, Nat.zero_le _, rfl, H0, Below.refl _ _⟩
    case round =>
      obtain ⟨k, hk, rfl, he, hB⟩ := hrel
      by_cases hlt : k < l.length
      · obtain ⟨b, off, c, off2, rfl, rfl, hb, hb2, ⟨h1, h2⟩, ⟨g1, g2⟩⟩ := Hw.out k hlt
        rw [← hB.cell hb] at h1 h2
        rw [← hB.cell hb2] at g1 g2
        have hs := he.out
        rw [Hd.out k hlt] at hs
        have q1 := cell_regrown h1
        have q2 := cell_regrown h2
        have q3 := cell_regrown g1
        have q4 := cell_regrown g2
        generalize (nth l k).1 = x1 at *
        generalize (nth l k).2 = s1 at *
        generalize (nth m k).1 = x2 at *
        generalize (nth m k).2 = s2 at *
        have hf := fun W => ralike_ct x1 x2 s1 s2 W
        clear Hw Hd he He
        cases ha : alikeB x1 s1 x2 s2
        · rw [ha] at hf hs
          rw [Bool.false_and] at hs
          have Hs := Lib.hid hs
          clear hs ha
          go_wp2_with fail
          (refine wp_region_quiet_below (by kernel_rfl) (by kernel_rfl) ?_); (repeat (go_big_quiet_step (((go_at_call 40; exact Calls.regrown_of (hf _)))))); (refine wpQuiet_nil ?_); intro _ hw'; obtain ⟨⟨dq, osq⟩, hw''⟩ := hw'; (subst hw''); have hq := below_regrown wr dq osq; generalize Go.Sort.grow (redrawn wr dq) osq = wq at hq ⊢
          go_wp2
          go_ret
          exact ⟨by rw [Hs.out]; rfl, hB.next hq⟩
        · rw [ha] at hf hs
          rw [Bool.true_and] at hs
          have Hs := Lib.hid hs
          clear hs ha
          go_wp2_with fail
          (refine wp_region_quiet_below (by kernel_rfl) (by kernel_rfl) ?_); (repeat (go_big_quiet_step (((go_at_call 40; exact Calls.regrown_of (hf _)))))); (refine wpQuiet_nil ?_); intro _ hw'; obtain ⟨⟨dq, osq⟩, hw''⟩ := hw'; (subst hw''); have hq := below_regrown wr dq osq; generalize Go.Sort.grow (redrawn wr dq) osq = wq at hq ⊢
          go_wp2
          go_roundw
          case rel => exact ⟨k + 1, by omega, by go_num, Hs, hB.next hq⟩
          case measure => simp [intOf]; omega
      · obtain rfl : k = l.length := by omega
        have Hs : Hid (res = true) := he.out.trans He.out
        clear he He Hd Hw
        go_wp2
        go_ret
        exact ⟨by rw [Hs.out]; rfl, hB⟩
  · rw [alikeL_len l m hl]
    obtain ⟨sa, cap, rfl, hcap, hn, hr⟩ := hr
    obtain ⟨ta, cap2, rfl, hcap2, hn2, hs⟩ := hs
    unfold maxLen at hn hn2
    clear hr hs
    go_enter Try.func19, Try.ntmps19
    go_wp2
    go_ret
    exact ⟨rfl, (by repeat' (first | exact Below.refl _ _ | (refine Below.setCell ?_ (by first | (simp; done) | (simp; omega) | omega) _) | (refine Below.drew ?_) | (refine Below.drewN ?_ _) | (refine Below.alloc ?_ (by first | (simp; done) | (simp; omega) | omega) _)))⟩
end Go.Proofs.Ytjiilcnbajcdhaa
