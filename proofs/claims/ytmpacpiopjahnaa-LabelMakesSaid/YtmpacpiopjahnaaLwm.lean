/-
  The walk of layer 1's law on what is made, over this seat's translation: it returns true, and writes nothing that was there.
-/
import Derived.Test.YtmpacpiopjahnaaLbn
namespace Go.Proofs.Ytmpacpiopjahnaa
open Go.RowKit

/-- The first byte of a list, or a low one. -/
def firstOr (v : Int) (l : List (Int × Bool)) : Int × Bool := match l with | [] => (v, false) | p :: _ => p
set_option maxRecDepth 100000 in
set_option maxHeartbeats 4000000 in
theorem makes_walk (v : Int) (sv : Value) (a : Int) (s : Bool) (l : List (Int × Bool)) (w : World) (hr : Rd w sv l) :
    Calls Try.prog 3 #[.int .u8 v, sv, .agg #[.int .u8 a, .bool s]] w fun e w' => e = .returned (.bool true) ∧ Below w.heap.size w w' := by
  have hr' := fun o => hr.below ((Below.refl _ _).alloc (Nat.le_refl _) o)
  have Hr := Lib.hid hr'
  clear hr' hr
  go_enter Try.func3, Try.ntmps3
  go_wp2_with fail
  refine (few_ct sv l _ (Hr.out _)).mono ?_
  rintro e w1 ⟨x, rfl, hx, rfl⟩
  clear Hr
  generalize l.take 40 = m at *
  have Hx := Lib.hid hx
  obtain ⟨b, cap, rfl, hcap, hn, hr⟩ := hx
  unfold maxLen at hn
  have hB : Below w.heap.size w (w.alloc (.cells #[.int .u8 a, .bool s] 24)) := (by repeat' (first | exact Below.refl _ _ | (refine Below.setCell ?_ (by first | (simp; done) | (simp; omega) | omega) _) | (refine Below.drew ?_) | (refine Below.drewN ?_ _) | (refine Below.alloc ?_ (by first | (simp; done) | (simp; omega) | omega) _)))
  have ka : BC (w.alloc (.cells #[.int .u8 a, .bool s] 24)) w.heap.size a s := ⟨(by first | (simp; done) | (simp; omega) | omega), (by simp [go_sem]), (by simp [go_sem])⟩
  obtain ⟨g, hg⟩ : ∃ g, g = w.heap.size := ⟨_, rfl⟩
  rw [← hg] at ka
  rw [show (Value.pointer (some ⟨w.heap.size, 0, none⟩)) = .pointer (some ⟨g, 0, none⟩) from by rw [hg]]
  clear hg
  generalize (w.alloc (.cells #[.int .u8 a, .bool s] 24)) = wa at *
  go_upto_region 2 with fail
  go_cut [7] (fun s7 wx => s7 = .pointer (some ⟨wa.heap.size, 0, none⟩) ∧ wx = wa.alloc (.cells #[.int .u8 v, .bool false] 24))
  case first =>
    go_wp2_with fail
    go_meet
    exact ⟨rfl, rfl⟩
  case rest =>
  obtain ⟨rfl, rfl⟩ := hcut
  go_upto_region 3 with fail
  go_cut [14] (fun s14 wx => s14 = .bool (decide (0 < m.length)) ∧ wx = wa.alloc (.cells #[.int .u8 v, .bool false] 24))
  case first =>
    go_wp2_with fail
    go_meet
    exact ⟨by simp, rfl⟩
  case rest =>
  obtain ⟨rfl, rfl⟩ := hcut
  go_upto_if 14 with fail
  go_cut [] (fun wx => wx = wa.alloc (.cells #[.int .u8 (firstOr v m).1, .bool (firstOr v m).2] 24))
  case first =>
    rcases hr with rfl | ⟨bb, off, rfl, hb, hc⟩
    · go_wp2_with fail
      go_meet
      rfl
    · cases m with
      | nil =>
        go_wp2_with fail
        go_meet
        rfl
      | cons q r =>
        obtain ⟨q1, q2⟩ := q
        have h0 := hc 0 (by simp)
        obtain ⟨c1, c2⟩ := h0
        simp [nth] at c1 c2
        have hl : 0 < ((q1, q2) :: r).length := by simp
        have hne : bb ≠ wa.heap.size := by omega
        clear hc
        go_wp2_with fail
        go_meet
        rfl
  case rest =>
  subst hcut
  have hn2 := (Below.refl wa.heap.size wa).alloc (Nat.le_refl _) (.cells #[.int .u8 (firstOr v m).1, .bool (firstOr v m).2] 24)
  have kj : BC (wa.alloc (.cells #[.int .u8 (firstOr v m).1, .bool (firstOr v m).2] 24)) wa.heap.size (firstOr v m).1 (firstOr v m).2 := ⟨(by first | (simp; done) | (simp; omega) | omega), (by simp [go_sem]), (by simp [go_sem])⟩
  replace ka := ka.next hn2
  replace hB := hB.next hn2
  have hx := Hx.out.below hn2
  clear Hx hr hn2
  generalize (firstOr v m).1 = f at *
  generalize (firstOr v m).2 = fs at *
  generalize (wa.alloc (.cells #[.int .u8 f, .bool fs] 24)) = wm at *
  generalize wa.heap.size = j at *
  obtain ⟨lj, cj, dj⟩ := kj
  obtain ⟨lg, cg, dg⟩ := ka
  have hxd : Rd wm.drew (.slice b m.length cap) m := hx.below ((Below.refl _ _).drew)
  generalize hsv : Value.slice b m.length cap = sl at *
  clear hsv
  go_upto_region 5 with fail
  go_region_held3 (fun w' => Below w.heap.size w w' ∧ Rd w' sl m ∧ (j < w'.heap.size ∧ w'.cell? ⟨j, 0, none⟩ = some (.int .u8 f) ∧ w'.cell? ⟨j, 1, none⟩ = some (.bool fs)) ∧ (g < w'.heap.size ∧ w'.cell? ⟨g, 0, none⟩ = some (.int .u8 a) ∧ w'.cell? ⟨g, 1, none⟩ = some (.bool s)))
    (first | assumption | (refine And.imp (next0 h1) (And.imp (fun h => Rd.below h h1) (And.imp (next1 h1) (next1 h1))) ?_; assumption) | exact ⟨hB.drew, hxd, ⟨lj, cj, dj⟩, ⟨lg, cg, dg⟩⟩)
    (first
      | (go_at_call 11; refine (low_ct _ _).mono ?_; rintro e w1 ⟨rfl, h1⟩)
      | (go_at_call 12; refine (sec_ct _ _).mono ?_; rintro e w1 ⟨rfl, h1⟩)
      | (go_at_call 13; refine (any_ct _ m _ (And.left (And.right (by assumption)))).mono ?_; rintro e w1 ⟨rfl, h1⟩)
      | (go_at_call 14; refine (rany_ct _ m _ (And.left (And.right (by assumption)))).mono ?_; rintro e w1 ⟨rfl, rfl⟩)
      | (go_at_call 15; refine (of_ct _ _ m _ (And.left (And.right (by assumption)))).mono ?_; rintro e w1 ⟨rfl, h1⟩)
      | (go_at_call 16; refine (alike_ct _ _ _ _ _).mono ?_; rintro e w1 ⟨rfl, h1⟩)
      | (go_at_call 17; refine (ralike_ct _ _ _ _ _).mono ?_; rintro e w1 ⟨rfl, h1⟩)
      | (go_at_call 18; refine (erase_ct _ _ _).mono ?_; rintro e w1 ⟨rfl, h1⟩)
      | (go_at_call 19; refine (awake_ct _).mono ?_; rintro e w1 ⟨rfl, h1⟩))
  obtain ⟨hz, -⟩ := ‹Below w.heap.size w w1 ∧ _›
  go_wp2
  go_ret
  exact ⟨rfl, hz⟩
end Go.Proofs.Ytmpacpiopjahnaa
