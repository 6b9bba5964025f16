/-
  The chapter's examples, as the laws of layer 2 ask them: they hold. Over this seat's translation; no condition.
-/
import Derived.Test.YtinbankkpbdlbaaMak
import Derived.Test.YtinbankkpbdlbaaTid
namespace Go.Proofs.Ytinbankkpbdlbaa
open Go.RowKit

theorem ex_make : mkL 3 ⟨#[5]⟩ [(1, 1)] = [(5, false), (0, true), (0, false)] := by decide
theorem ex_tidy : Tidied [(4, 6), (0, 3)] [(0, 6)] := by
  refine ⟨by decide, fun x => ?_⟩
  rw [Bool.eq_iff_iff, inB_iff, inB_iff]
  simp
  omega
theorem Rd.slice {w : World} {v : Value} {l : List (Int × Bool)} (h : Rd w v l) : ∃ a cap, v = .slice a l.length cap := by
  obtain ⟨a, cap, hv, _⟩ := h
  exact ⟨a, cap, hv⟩
set_option maxRecDepth 100000 in
set_option maxHeartbeats 4000000 in
theorem awake_ct (w : World) : Calls Try.prog 16 #[] w fun e w' => e = .returned (.bool true) ∧ Below w.heap.size w w' := by
  have hm := Lib.hid (make_yes 3 ⟨#[5]⟩ (.slice (some ⟨w.heap.size, 0, none⟩) 1 1) [(1, 1)] (w.alloc (.cells #[.int .i64 1, .int .i64 1] 54)) (rg1 rfl 1 1 _) (by omega) (by decide) (by decide))
  go_enter Try.func16, Try.ntmps16
  go_wp2_with fail
  refine hm.out.mono ?_
  rintro e w1 ⟨v, rfl, hr, hB⟩
  rw [ex_make] at hr
  obtain ⟨a, cap, rfl⟩ := hr.slice
  have hb0 : Below w.heap.size w (w.alloc (.cells #[.int .i64 1, .int .i64 1] 54)) := (by repeat' (first | exact Below.refl _ _ | (refine Below.setCell ?_ (by first | (simp; done) | (simp; omega) | omega) _) | (refine Below.drew ?_) | (refine Below.drewN ?_ _) | (refine Below.alloc ?_ (by first | (simp; done) | (simp; omega) | omega) _)))
  replace hB := hb0.next hB
  clear hm hb0
  have Hr := Lib.hid hr
  clear hr
  have ht := Lib.hid (tidy_yes (.slice (some ⟨w1.heap.size, 0, none⟩) 2 2) [(4, 6), (0, 3)] (w1.alloc (.cells #[.int .i64 4, .int .i64 6, .int .i64 0, .int .i64 3] 54)) (rg2 rfl 4 6 0 3 _) (by decide) (by decide))
  go_wp2_with fail
  refine ht.out.mono ?_
  rintro e w2 ⟨v2, T, rfl, hrt, hT, hB2⟩
  obtain rfl := hT.uniq ex_tidy
  obtain ⟨a2, cap2, rfl⟩ := hrt.slice
  have hb1 : Below w1.heap.size w1 (w1.alloc (.cells #[.int .i64 4, .int .i64 6, .int .i64 0, .int .i64 3] 54)) := (by repeat' (first | exact Below.refl _ _ | (refine Below.setCell ?_ (by first | (simp; done) | (simp; omega) | omega) _) | (refine Below.drew ?_) | (refine Below.drewN ?_ _) | (refine Below.alloc ?_ (by first | (simp; done) | (simp; omega) | omega) _)))
  replace hB2 := hb1.next hB2
  have Hr2 := Lib.hid (Hr.out.below hB2)
  have Hrt := Lib.hid hrt
  replace hB := hB.next hB2
  clear ht hb1 Hr hrt hT hB2
  have hl := Lib.hid (load_no [(5, false), (0, true), (0, false)] _ 3 w2 Hr2.out (.inr (by decide)))
  go_wp2_with fail
  refine hl.out.mono ?_
  rintro e w3 ⟨rfl, hB3⟩
  replace hB := hB.next hB3
  have Hr3 := Lib.hid (Hr2.out.below hB3)
  have Hrt3 := Lib.hid (Hrt.out.below hB3)
  clear hl hB3 Hr2 Hrt
  go_wp2_with fail
  have hb3 : Below w3.heap.size w3 ((w3.alloc (.cells #[.int .u8 0, .bool false] 41)).alloc (.cells #[.int .u8 5, .bool false, .int .u8 0, .bool true, .int .u8 0, .bool false] 41)) := (by repeat' (first | exact Below.refl _ _ | (refine Below.setCell ?_ (by first | (simp; done) | (simp; omega) | omega) _) | (refine Below.drew ?_) | (refine Below.drewN ?_ _) | (refine Below.alloc ?_ (by first | (simp; done) | (simp; omega) | omega) _)))
  refine (rsame_ct _ _ [(5, false), (0, true), (0, false)] [(5, false), (0, true), (0, false)] _ (Hr3.out.below hb3) (rd3 (by simp) _ _ _ _ _ _ _)).mono ?_
  rw [eqL_self]
  rintro e w4 ⟨rfl, hB4⟩
  have hb4 := hb3.next hB4
  have Hrt4 := Lib.hid (Hrt3.out.below hb4)
  replace hB := hB.next hb4
  clear hb3 hB4 hb4 Hr3 Hrt3
  go_wp2_with fail
  have hb5 : Below w4.heap.size w4 (w4.alloc (.cells #[.int .i64 0, .int .i64 6] 54)) := (by repeat' (first | exact Below.refl _ _ | (refine Below.setCell ?_ (by first | (simp; done) | (simp; omega) | omega) _) | (refine Below.drew ?_) | (refine Below.drewN ?_ _) | (refine Below.alloc ?_ (by first | (simp; done) | (simp; omega) | omega) _)))
  refine (sameR_ct _ _ [(0, 6)] [(0, 6)] _ (Hrt4.out.below hb5) (rg1 (by simp) _ _ _)).mono ?_
  rw [eqL_self]
  rintro e w5 ⟨rfl, hB5⟩
  replace hB := hB.next (hb5.next hB5)
  clear hb5 hB5 Hrt4
  go_wp2
  go_ret
  exact ⟨rfl, hB⟩
end Go.Proofs.Ytinbankkpbdlbaa
