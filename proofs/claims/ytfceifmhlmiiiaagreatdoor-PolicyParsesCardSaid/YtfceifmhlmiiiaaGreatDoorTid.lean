/-
  Package cells' Tidy: it refuses ranges of which one may not be by itself; else what comes back are the ranges that may be, with just the same places. Over this seat's translation; of at most 100000 ranges.
-/
import Derived.Test.YtfceifmhlmiiiaaGreatDoorJoi
namespace Go.Proofs.YtfceifmhlmiiiaaGreatDoor
open Go.RowKit Go.Shelf

theorem joined_stops (n : Nat) (hn : 1 ≤ n) (Bs : Nat) (wA : World) (sv : Value) (d : List (Int × Int)) (w : World) (hBl : Bs < wA.heap.size) (hc : wA.cell? ⟨Bs, 0, none⟩ = some sv) (hr : Rg wA sv d) (hbA : Below wA.heap.size wA w) (hw : d.all wholeB = true) (hsd : Sorted1 d) :
    SeqStopsK Fence.wide n Tryz.prog 46 #[.pointer (some ⟨Bs, 0, none⟩)] encR (Below wA.heap.size) (fun ys => Tidied d ys) (fun _ => True) d.length w := fun l J Jx W hW hJ _ hY h0 =>
  joined1_in n hn l Bs wA sv d J Jx hY (fun _ _ _ hb hs => abides_below hJ hb hs) W hBl hc hr (hbA.trans (hW.mono hbA.size)) h0 hw hsd
set_option maxHeartbeats 1000000 in
theorem joined_ct (a : Option Addr) (len cap : Nat) (w : World) :
    Calls Tryz.prog 28 #[.slice a len cap] w fun e w' => e = .returned (.func (.func 46) #[] #[.pointer (some ⟨w.heap.size, 0, none⟩)]) ∧ w.alloc (.cells #[.slice a len cap] 23) = w' := by
  go_enter Tryz.func28, Tryz.ntmps28
  go_wp2
  go_ret
  exact ⟨rfl, rfl⟩
/-- What Tidy hands back: refused, or tidied. -/
def TidyNo (w : World) (e : Ending) (w' : World) : Prop := e = .returned (.tuple #[.slice none 0 0, .int .i64 1]) ∧ Below w.heap.size w w'
def TidyYes (l : List (Int × Int)) (w : World) (e : Ending) (w' : World) : Prop := ∃ v T, e = .returned (.tuple #[v, .int .i64 0]) ∧ Rg w' v T ∧ Tidied l T ∧ Below w.heap.size w w'
set_option maxHeartbeats 4000000 in
theorem tidy_no (sv : Value) (l : List (Int × Int)) (w : World) (hr : Rg w sv l) (hw : l.all wholeB = false) :
    Calls Tryz.prog 11 #[sv] w (TidyNo w) := by
  obtain ⟨sa, cap, rfl, hcap, hm, hr⟩ := hr
  unfold maxLen at hm
  rcases hr with rfl | ⟨sb, off, rfl, hb, hc⟩
  · cases hw
  have Hc := Lib.hid hc
  clear hc
  have Hw := Lib.hid hw
  clear hw
  go_enter Tryz.func11, Tryz.ntmps11
  go_wp2
  go_loopw [9] (fun i wr => ∃ (k : Nat), k ≤ l.length ∧ i = .int .i64 k ∧ Hid ((l.drop k).all wholeB = false) ∧ Below w.heap.size w wr) (fun i _ => l.length - (intOf i).toNat)
  case atStart => exact ⟨0, Nat.zero_le _, rfl, Hw, Below.refl _ _⟩
  case round =>
    obtain ⟨k, hk, rfl, he, hB⟩ := hrel
    by_cases hlt : k < l.length
    · obtain ⟨h1, h2⟩ := Hc.out k hlt
      rw [← hB.cell hb] at h1 h2
      obtain ⟨a, b, hab⟩ : ∃ a b, nthR l k = (a, b) := ⟨_, _, rfl⟩
      have hs := he.out
      rw [drop_cons' l k (0, 0) hlt, show l.getD k (0, 0) = (a, b) from hab, List.all_cons] at hs
      rw [hab] at h1 h2
      dsimp only at h1 h2
      have hf := fun W => fits_ct a b W
      have hB' := hB.alloc hB.size (.cells #[.int .i64 a, .int .i64 b] 42)
      clear hab he
      cases hx : wholeB (a, b)
      · rw [hx] at hf
        clear hs hx Hc
        go_wp2_with fail
        refine (hf _).mono ?_
        rintro e w1 ⟨rfl, hB1⟩
        go_wp2
        go_ret2
        exact ⟨rfl, hB'.next hB1⟩
      · rw [hx] at hf
        rw [hx, Bool.true_and] at hs
        have Hs := Lib.hid hs
        clear hs hx Hc
        go_wp2_with fail
        refine (hf _).mono ?_
        rintro e w1 ⟨rfl, hB1⟩
        go_wp2
        go_roundw
        case rel => exact ⟨k + 1, by omega, by go_num, Hs, hB'.next hB1⟩
        case measure => simp [intOf]; omega
    · have Hs := he.out
      rw [List.drop_of_length_le (by omega)] at Hs
      cases Hs
theorem all_drop_step (l : List (Int × Int)) (k : Nat) (a b : Int) (h : l.all wholeB = true) (hk : k < l.length) (hab : nthR l k = (a, b)) : wholeB (a, b) = true := by
  rw [← hab]; exact List.all_eq_true.1 h _ (mem_getD l k (0, 0) hk)
set_option maxHeartbeats 4000000 in
theorem tidy_yes (sv : Value) (l : List (Int × Int)) (w : World) (hr : Rg w sv l) (hw : l.all wholeB = true) (hN : l.length ≤ 100000) :
    Calls Tryz.prog 11 #[sv] w (TidyYes l w) := by
  have Hr := Lib.hid hr
  obtain ⟨sa, cap, rfl, hcap, hm, hr⟩ := hr
  unfold maxLen at hm
  have Hc := Lib.hid hr
  clear hr
  have Hw := Lib.hid hw
  clear hw
  go_enter Tryz.func11, Tryz.ntmps11
  go_wp2
  go_loopw [9] (fun i wr => ∃ (k : Nat), k ≤ l.length ∧ i = .int .i64 k ∧ Below w.heap.size w wr) (fun i _ => l.length - (intOf i).toNat)
  case atStart => exact ⟨0, Nat.zero_le _, rfl, Below.refl _ _⟩
  case round =>
    obtain ⟨k, hk, rfl, hB⟩ := hrel
    by_cases hlt : k < l.length
    · rcases Hc.out with rfl | ⟨sb, off, rfl, hb, hc⟩
      · simp at hlt
      obtain ⟨h1, h2⟩ := hc k hlt
      clear hc
      rw [← hB.cell hb] at h1 h2
      obtain ⟨a, b, hab⟩ : ∃ a b, nthR l k = (a, b) := ⟨_, _, rfl⟩
      have hx := all_drop_step l k a b Hw.out hlt hab
      rw [hab] at h1 h2
      dsimp only at h1 h2
      have hf := fun W => fits_ct a b W
      have hB' := hB.alloc hB.size (.cells #[.int .i64 a, .int .i64 b] 42)
      clear hab
      rw [hx] at hf
      clear hx Hc
      go_wp2_with fail
      refine (hf _).mono ?_
      rintro e w1 ⟨rfl, hB1⟩
      go_wp2
      go_roundw
      case rel => exact ⟨k + 1, by omega, by go_num, hB'.next hB1⟩
      case measure => simp [intOf]; omega
    · have hnm : decide (k < l.length) = false := by simpa using hlt
      have hrw := Hr.out.below hB
      have Hrw := Lib.hid hrw
      clear hrw Hr Hc
      go_wp2_with fail
      refine (values_ct _ _ _ _).mono ?_
      rintro e w1 ⟨rfl, hw1⟩
      have hb1 : Below wr.heap.size wr w1 := by rw [← hw1]; exact (by repeat' (first | exact Below.refl _ _ | (refine Below.setCell ?_ (by first | (simp; done) | (simp; omega) | omega) _) | (refine Below.drew ?_) | (refine Below.drewN ?_ _) | (refine Below.alloc ?_ (by first | (simp; done) | (simp; omega) | omega) _)))
      have hc1 : w1.cell? ⟨wr.heap.size, 0, none⟩ = some (.slice sa l.length cap) := by rw [← hw1]; exact (by simp [go_sem])
      have hl1 : wr.heap.size < w1.heap.size := by rw [← hw1]; simp
      clear hw1
      have hB1 := hB.next hb1
      have hr1 := Hrw.out.below hb1
      have hs1 := sortedf_ct 43 #[.pointer (some ⟨wr.heap.size, 0, none⟩)] (enters_of Tryz.func43 (by kernel_rfl) rfl) (fun _ => True) l hN w1
        (fun m hm => values_stops m hm wr.heap.size w1 _ l w1 hl1 hc1 hr1 (Below.refl _ _))
      have Hs1 := Lib.hid hs1
      clear hs1 hr1 hc1
      go_wp2_with fail
      refine Hs1.out.mono ?_
      rintro e w2 ⟨v, d, rfl, hrd, hp, hsd, hB2⟩
      obtain ⟨da, dcap, rfl⟩ := hrd.slice
      have Hrd := Lib.hid hrd
      have Hp := Lib.hid hp
      have Hsd := Lib.hid hsd
      clear Hs1 hrd hp hsd
      have hB2' := hB1.next hB2
      go_wp2_with fail
      refine (joined_ct _ _ _ _).mono ?_
      rintro e w3 ⟨rfl, hw3⟩
      have hb3 : Below w2.heap.size w2 w3 := by rw [← hw3]; exact (by repeat' (first | exact Below.refl _ _ | (refine Below.setCell ?_ (by first | (simp; done) | (simp; omega) | omega) _) | (refine Below.drew ?_) | (refine Below.drewN ?_ _) | (refine Below.alloc ?_ (by first | (simp; done) | (simp; omega) | omega) _)))
      have hc3 : w3.cell? ⟨w2.heap.size, 0, none⟩ = some (.slice da d.length dcap) := by rw [← hw3]; exact (by simp [go_sem])
      have hl3 : w2.heap.size < w3.heap.size := by rw [← hw3]; simp
      clear hw3
      have hB3 := hB2'.next hb3
      have hwd : d.all wholeB = true := by
        rw [List.all_eq_true]
        exact fun r hr => List.all_eq_true.1 Hw.out r (Hp.out.mem_iff.1 hr)
      have hcj := collect_ct 46 #[.pointer (some ⟨w2.heap.size, 0, none⟩)] (enters_of Tryz.func46 (by kernel_rfl) rfl) (fun ys => Tidied d ys) (fun _ => True) d.length (by rw [Hp.out.length_eq]; exact hN) w3
        (fun m hm => joined_stops m hm w2.heap.size w3 _ d w3 hl3 hc3 (Hrd.out.below hb3) (Below.refl _ _) hwd Hsd.out)
      have Hcj := Lib.hid hcj
      clear hcj hwd hc3
      go_wp2_with fail
      refine Hcj.out.mono ?_
      rintro e w4 ⟨v4, T, rfl, hT, hO, hB4⟩
      have HT := Lib.hid hT
      have HO := Lib.hid hO
      clear hT hO Hcj
      go_wp2
      go_ret2
      exact ⟨v4, T, rfl, HO.out.rg, HT.out.perm Hp.out, hB3.next hB4⟩
end Go.Proofs.YtfceifmhlmiiiaaGreatDoor
