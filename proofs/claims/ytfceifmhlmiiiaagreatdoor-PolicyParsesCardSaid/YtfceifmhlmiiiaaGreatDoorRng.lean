/-
  A slice of ranges that reads as a list, and contracts of what only reads ranges: which may be, which places are in them, and whether two lists are the same. Over this seat's translation; no condition.
-/
import Derived.Test.YtfceifmhlmiiiaaGreatDoorLbl
import Derived.Test.YtfceifmhlmiiiaaGreatDoorMth
namespace Go.Proofs.YtfceifmhlmiiiaaGreatDoor
open Go.RowKit

/-- A slice of ranges that reads as a list. -/
def Rg (w : World) (v : Value) (l : List (Int × Int)) : Prop :=
  ∃ a cap, v = .slice a l.length cap ∧ l.length ≤ cap ∧ cap ≤ maxLen ∧ (l = [] ∨ ∃ b off, a = some ⟨b, off, none⟩ ∧ b < w.heap.size ∧
    ∀ k, k < l.length → w.cell? ⟨b, off + k * 2, none⟩ = some (.int .i64 (nthR l k).1) ∧ w.cell? ⟨b, off + k * 2 + 1, none⟩ = some (.int .i64 (nthR l k).2))
theorem rg0 (w : World) : Rg w (.slice none 0 0) [] := ⟨_, _, rfl, by simp, by simp [maxLen], .inl rfl⟩
theorem rg1 {w : World} {b : Nat} (hb : b = w.heap.size) (x y : Int) (T : Nat) : Rg (w.alloc (.cells #[.int .i64 x, .int .i64 y] T)) (.slice (some ⟨b, 0, none⟩) 1 1) [(x, y)] := by
  subst hb
  refine ⟨_, _, rfl, by simp, by simp [maxLen], .inr ⟨_, _, rfl, by simp, fun k hk => ?_⟩⟩
  match k, hk with
  | 0, _ => simp [nthR, go_sem]
theorem rg2 {w : World} {b : Nat} (hb : b = w.heap.size) (x y p q : Int) (T : Nat) : Rg (w.alloc (.cells #[.int .i64 x, .int .i64 y, .int .i64 p, .int .i64 q] T)) (.slice (some ⟨b, 0, none⟩) 2 2) [(x, y), (p, q)] := by
  subst hb
  refine ⟨_, _, rfl, by simp, by simp [maxLen], .inr ⟨_, _, rfl, by simp, fun k hk => ?_⟩⟩
  match k, hk with
  | 0, _ => simp [nthR, go_sem]
  | 1, _ => simp [nthR, go_sem]
theorem Rg.below {w w' : World} {v : Value} {l : List (Int × Int)} (h : Rg w v l) (hb : Below w.heap.size w w') : Rg w' v l := by
  obtain ⟨a, cap, hv, hl, hm, h⟩ := h
  refine ⟨a, cap, hv, hl, hm, ?_⟩
  rcases h with h | ⟨b, off, ha, hlt, hc⟩
  · exact .inl h
  · refine .inr ⟨b, off, ha, Nat.lt_of_lt_of_le hlt hb.size, fun k hk => ?_⟩
    obtain ⟨h1, h2⟩ := hc k hk
    rw [hb.cell (p := ⟨b, off + k * 2, none⟩) hlt, hb.cell (p := ⟨b, off + k * 2 + 1, none⟩) hlt]
    exact ⟨h1, h2⟩

def okE (b : Bool) : Int := if b then 0 else 1
set_option maxHeartbeats 1000000 in
theorem fits_ct (a b : Int) (w : World) :
    Calls Tryz.prog 22 #[.agg #[.int .i64 a, .int .i64 b]] w fun e w' => e = .returned (.bool (wholeB (a, b))) ∧ Below w.heap.size w w' := by
  by_cases h1 : 0 ≤ a
  · by_cases h2 : a ≤ b
    · by_cases h3 : b < 65536
      · have hv : wholeB (a, b) = true := by simp [wholeB, h1, h2, h3]
        rw [hv]; clear hv
        go_enter Tryz.func22, Tryz.ntmps22
        go_wp2
        go_ret
        exact ⟨rfl, (by repeat' (first | exact Below.refl _ _ | (refine Below.setCell ?_ (by first | (simp; done) | (simp; omega) | omega) _) | (refine Below.drew ?_) | (refine Below.drewN ?_ _) | (refine Below.alloc ?_ (by first | (simp; done) | (simp; omega) | omega) _)))⟩
      · have hv : wholeB (a, b) = false := by simp [wholeB, h3]
        rw [hv]; clear hv
        go_enter Tryz.func22, Tryz.ntmps22
        go_wp2
        go_ret
        exact ⟨rfl, (by repeat' (first | exact Below.refl _ _ | (refine Below.setCell ?_ (by first | (simp; done) | (simp; omega) | omega) _) | (refine Below.drew ?_) | (refine Below.drewN ?_ _) | (refine Below.alloc ?_ (by first | (simp; done) | (simp; omega) | omega) _)))⟩
    · have hv : wholeB (a, b) = false := by simp [wholeB, h2]
      rw [hv]; clear hv
      go_enter Tryz.func22, Tryz.ntmps22
      go_wp2
      go_ret
      exact ⟨rfl, (by repeat' (first | exact Below.refl _ _ | (refine Below.setCell ?_ (by first | (simp; done) | (simp; omega) | omega) _) | (refine Below.drew ?_) | (refine Below.drewN ?_ _) | (refine Below.alloc ?_ (by first | (simp; done) | (simp; omega) | omega) _)))⟩
  · have hv : wholeB (a, b) = false := by simp [wholeB, h1]
    rw [hv]; clear hv
    go_enter Tryz.func22, Tryz.ntmps22
    go_wp2
    go_ret
    exact ⟨rfl, (by repeat' (first | exact Below.refl _ _ | (refine Below.setCell ?_ (by first | (simp; done) | (simp; omega) | omega) _) | (refine Below.drew ?_) | (refine Below.drewN ?_ _) | (refine Below.alloc ?_ (by first | (simp; done) | (simp; omega) | omega) _)))⟩
theorem may_step (l : List (Int × Int)) (k : Nat) (m a b : Int) (hk : k < l.length) (hn : nthR l k = (a, b)) (h : mayB 0 l = mayB m (l.drop k)) : mayB 0 l = (wholeB (a, b) && (decide (m ≤ a) && mayB (b + 2) (l.drop (k + 1)))) := by
  rw [h, drop_cons' l k (0, 0) hk, show l.getD k (0, 0) = (a, b) from hn]
  rfl
theorem may_end (l : List (Int × Int)) (k : Nat) (m : Int) (hk : ¬ k < l.length) (h : mayB 0 l = mayB m (l.drop k)) : mayB 0 l = true := by
  rw [h, List.drop_of_length_le (by omega)]
  rfl

set_option maxHeartbeats 4000000 in
theorem check_ct (sv : Value) (l : List (Int × Int)) (w : World) (hr : Rg w sv l) :
    Calls Tryz.prog 48 #[sv] w fun e w' => e = .returned (.int .i64 (okE (mayB 0 l))) ∧ Below w.heap.size w w' := by
  obtain ⟨sa, cap, rfl, hcap, hn, hr⟩ := hr
  unfold maxLen at hn
  rcases hr with rfl | ⟨sb, off, rfl, hb, hc⟩
  · go_enter Tryz.func48, Tryz.ntmps48
    go_wp2
    go_loopw [3, 8] (fun _ i wr => i = .int .i64 0 ∧ wr = w) (fun _ i _ => 0)
    case atStart => exact ⟨rfl, rfl⟩
    case round =>
      obtain ⟨rfl, rfl⟩ := hrel
      go_wp2
      go_ret
      exact ⟨rfl, Below.refl _ _⟩
  have Hc := Lib.hid hc
  clear hc
  go_enter Tryz.func48, Tryz.ntmps48
  go_wp2
  go_loopw [3, 8] (fun least i wr => ∃ (k : Nat) (m : Int), k ≤ l.length ∧ i = .int .i64 k ∧ least = .int .i64 m ∧ 0 ≤ m ∧ m ≤ 65538 ∧ Hid (mayB 0 l = mayB m (l.drop k)) ∧ Below w.heap.size w wr) (fun _ i _ => l.length - (intOf i).toNat)
  case atStart => exact ⟨0, 0, Nat.zero_le _, rfl, rfl, by omega, by omega, by simp [Hid], Below.refl _ _⟩
  case round =>
    obtain ⟨k, m, hk, rfl, rfl, hm0, hm1, he, hB⟩ := hrel
    by_cases hlt : k < l.length
    · obtain ⟨h1, h2⟩ := Hc.out k hlt
      rw [← hB.cell hb] at h1 h2
      obtain ⟨a, b, hab⟩ : ∃ a b, nthR l k = (a, b) := ⟨_, _, rfl⟩
      have hs := may_step l k m a b hlt hab he.out
      rw [hab] at h1 h2
      dsimp only at h1 h2
      have hB' := hB.alloc hB.size (.cells #[.int .i64 a, .int .i64 b] 42)
      have hf := fun W => fits_ct a b W
      clear hab he
      cases hw : wholeB (a, b)
      · rw [hw] at hf
        rw [hw, Bool.false_and] at hs
        have Hs := Lib.hid hs
        clear hs hw Hc
        go_wp2_with fail
        refine (hf _).mono ?_
        rintro e w1 ⟨rfl, hB1⟩
        go_wp2
        go_ret
        exact ⟨by rw [Hs.out]; rfl, hB'.next hB1⟩
      · rw [hw] at hf
        obtain ⟨w1, w2, w3⟩ := (wholeB_iff _).1 hw
        dsimp only at w1 w2 w3
        rw [hw, Bool.true_and] at hs
        by_cases hm : m ≤ a
        · rw [decide_eq_true hm, Bool.true_and] at hs
          have Hs := Lib.hid hs
          clear hs hw Hc
          go_wp2_with fail
          refine (hf _).mono ?_
          rintro e w1 ⟨rfl, hB1⟩
          obtain ⟨hc1, hf1⟩ := bcell hB1
          simp at hc1 hf1
          go_wp2
          go_roundw
          case rel => exact ⟨k + 1, b + 2, by omega, by go_num, rfl, by omega, by omega, Hs, hB'.next hB1⟩
          case measure => simp [intOf]; omega
        · rw [decide_eq_false hm, Bool.false_and] at hs
          have Hs := Lib.hid hs
          clear hs hw Hc
          go_wp2_with fail
          refine (hf _).mono ?_
          rintro e w1 ⟨rfl, hB1⟩
          obtain ⟨hc1, hf1⟩ := bcell hB1
          simp at hc1 hf1
          go_wp2
          go_ret
          exact ⟨by rw [Hs.out]; rfl, hB'.next hB1⟩
    · have Hs := Lib.hid (may_end l k m hlt he.out)
      clear Hc he
      go_wp2
      go_ret
      exact ⟨by rw [Hs.out]; rfl, hB⟩
end Go.Proofs.YtfceifmhlmiiiaaGreatDoor
