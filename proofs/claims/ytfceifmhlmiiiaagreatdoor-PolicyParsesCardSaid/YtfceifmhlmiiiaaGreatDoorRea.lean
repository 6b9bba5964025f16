/-
  The range that a line tells of an area (package policy's read), at every line shorter than the shelf's bound. Over this seat's translation, where the library's MaxLen holds a number.
-/
import Derived.Test.YtfceifmhlmiiiaaGreatDoorAra
import Derived.Test.YtfceifmhlmiiiaaGreatDoorNum
import Derived.Laws.ResultCell
namespace Go.Proofs.YtfceifmhlmiiiaaGreatDoor
open Go.RowKit

theorem number_at (l : List UInt8) (w : World) : Calls Tryz.prog 20 #[.string ⟨l.toArray⟩] w fun e w' => e = .returned (.tuple #[.int .i64 (numOf l), .bool (isNum l)]) ∧ Below w.heap.size w w' := by
  have := number_ct ⟨l.toArray⟩ w
  exact this
theorem cut_at (l : List UInt8) (w : World) (G : Glob w) (h : l.length < 4294967281) :
    Calls Tryz.prog 19 #[.string ⟨l.toArray⟩, .string ⟨#[45]⟩] w fun e w' => e = .returned (.tuple #[.string ⟨(fstL l).toArray⟩, .string ⟨(Lib.cut l [45]).2.1.toArray⟩, .bool (Lib.cut l [45]).2.2]) ∧ Below w.heap.size w w' := by
  obtain ⟨m, hm⟩ := G.max
  refine (Tryz.strings_Cut ⟨l.toArray⟩ ⟨#[45]⟩ m w (by simpa [ByteArray.size] using h) hm).mono ?_
  rintro e w' ⟨rfl, n, rfl⟩
  exact ⟨rfl, below_drewN (Below.refl _ _) n⟩
theorem sndL_yes (l : List UInt8) (h : (Lib.cut l [45]).2.2 = true) : (Lib.cut l [45]).2.1 = sndL l := by unfold sndL; rw [if_pos h]
theorem sndL_no (l : List UInt8) (h : (Lib.cut l [45]).2.2 = false) : fstL l = sndL l := by unfold sndL fstL; rw [if_neg (by rw [h]; exact Bool.false_ne_true)]
theorem numOf_yes {l : List UInt8} (h : isNum l = true) : hexN l = numOf l := by unfold numOf; rw [if_pos h]
def rdV : Option (Int × Int) → Value
  | none => .tuple #[.agg #[.int .i64 0, .int .i64 0], .bool false]
  | some r => .tuple #[.agg #[.int .i64 r.1, .int .i64 r.2], .bool true]
theorem readL_no {word : List UInt8} {n : Int} {s : List UInt8} (h : Lib.hasPrefix s word = false) : rdV (readL word n s) = .tuple #[.agg #[.int .i64 0, .int .i64 0], .bool false] := by
  unfold readL; rw [h]; rfl
theorem readL_bad {word : List UInt8} {n : Int} {s : List UInt8} (h : Lib.hasPrefix s word = true) (hb : spanB n (Lib.trimPrefix s word) = false) : rdV (readL word n s) = .tuple #[.agg #[.int .i64 0, .int .i64 0], .bool false] := by
  unfold readL spanL; rw [h, hb]; rfl
theorem readL_yes {word : List UInt8} {n : Int} {s : List UInt8} (h : Lib.hasPrefix s word = true) (h1 : isNum (fstL (Lib.trimPrefix s word)) = true) (h2 : isNum (sndL (Lib.trimPrefix s word)) = true) (h3 : numOf (fstL (Lib.trimPrefix s word)) ≤ numOf (sndL (Lib.trimPrefix s word))) (h4 : ¬ n ≤ numOf (sndL (Lib.trimPrefix s word))) :
    rdV (readL word n s) = .tuple #[.agg #[.int .i64 (numOf (fstL (Lib.trimPrefix s word))), .int .i64 (numOf (sndL (Lib.trimPrefix s word)))], .bool true] := by
  have hb : spanB n (Lib.trimPrefix s word) = true := by
    unfold spanB
    rw [h1, h2, numOf_yes h1, numOf_yes h2, decide_eq_true h3, decide_eq_true (show numOf (sndL (Lib.trimPrefix s word)) < n by omega)]; rfl
  unfold readL spanL; rw [h, hb, numOf_yes h1, numOf_yes h2]; rfl
theorem spanB_1 {n : Int} {l : List UInt8} (h : isNum (fstL l) = false) : spanB n l = false := by unfold spanB; rw [h]; rfl
theorem spanB_2 {n : Int} {l : List UInt8} (h : isNum (sndL l) = false) : spanB n l = false := by unfold spanB; rw [h]; simp
theorem spanB_3 {n : Int} {l : List UInt8} (h1 : isNum (fstL l) = true) (h2 : isNum (sndL l) = true) (h : ¬ numOf (fstL l) ≤ numOf (sndL l)) : spanB n l = false := by unfold spanB; rw [numOf_yes h1, numOf_yes h2, decide_eq_false h]; simp
theorem spanB_4 {n : Int} {l : List UInt8} (h2 : isNum (sndL l) = true) (h : n ≤ numOf (sndL l)) : spanB n l = false := by unfold spanB; rw [numOf_yes h2, decide_eq_false (show ¬ numOf (sndL l) < n by omega)]; simp
set_option maxRecDepth 100000 in
set_option maxHeartbeats 8000000 in
theorem read_ct (word : ByteArray) (n : Int) (va : Option Addr) (vl vc : Nat) (s : ByteArray) (w : World) (G : Glob w) (hs : s.size < 4294967281) :
    Calls Tryz.prog 10 #[.agg #[.string word, .int .i64 n, .slice va vl vc], .string s] w fun e w' => e = .returned (rdV (readL word.data.toList n s.data.toList)) ∧ Below w.heap.size w w' := by
  have G' := Lib.hid G
  have Gb : Hid (∀ w', Below w.heap.size w w' → Glob w') := fun _ hb => G.below hb
  clear G
  cases hp : Lib.hasPrefix s.data.toList word.data.toList
  · have Hr := Lib.hid (readL_no (n := n) hp)
    go_enter Tryz.func10, Tryz.ntmps10
    go_wp2_with fail
    refine (Tryz.strings_CutPrefix _ _ _).mono ?_
    rintro e w1 ⟨rfl, rfl⟩
    rw [hp]
    clear hp
    go_wp2
    rw [Hr.out]
    exact bodyPost_ret (v := .tuple #[.agg #[.int .i64 0, .int .i64 0], .bool false]) (by simp [results, Tryz.results10, go_sem]) rfl ⟨rfl, (by repeat' (first | exact Below.refl _ _ | (refine Below.setCell ?_ (by first | (simp; done) | (simp; omega) | omega) _) | (refine Below.drew ?_) | (refine Below.drewN ?_ _) | (refine Below.alloc ?_ (by first | (simp; done) | (simp; omega) | omega) _)))⟩
  · have ht : (Lib.trimPrefix s.data.toList word.data.toList).length < 4294967281 := by
      have e : s.data.toList.length = s.size := by rw [Array.length_toList]; rfl
      unfold Lib.trimPrefix
      split
      all_goals (first | (rw [List.length_drop, e]; omega) | (rw [e]; exact hs))
    obtain ⟨t, htt⟩ : ∃ t, Lib.trimPrefix s.data.toList word.data.toList = t := ⟨_, rfl⟩
    have Ht := Lib.hid htt
    rw [htt] at ht
    have Hp := Lib.hid hp
    have Hbad : Hid (spanB n t = false → rdV (readL word.data.toList n s.data.toList) = .tuple #[.agg #[.int .i64 0, .int .i64 0], .bool false]) := fun h => readL_bad hp (by rw [htt]; exact h)
    have Hyes : Hid (isNum (fstL t) = true → isNum (sndL t) = true → numOf (fstL t) ≤ numOf (sndL t) → ¬ n ≤ numOf (sndL t) → rdV (readL word.data.toList n s.data.toList) = .tuple #[.agg #[.int .i64 (numOf (fstL t)), .int .i64 (numOf (sndL t))], .bool true]) := fun h1 h2 h3 h4 => by rw [← htt] at h1 h2 h3 h4 ⊢; exact readL_yes hp h1 h2 h3 h4
    have b1 := numOf_bd (fstL t)
    have b2 := numOf_bd (sndL t)
    clear htt hp
    cases hfd : (Lib.cut t [45]).2.2
    · have Hsnd := Lib.hid (sndL_no t hfd)
      cases h1 : isNum (fstL t)
      · have Hr := Lib.hid (Hbad.out (spanB_1 h1))
        cases h2 : isNum (sndL t)
        all_goals
          have H1 := Lib.hid h1
          have H2 := Lib.hid h2
          clear h1 h2
          go_enter Tryz.func10, Tryz.ntmps10
          go_wp2_with fail
          refine (Tryz.strings_CutPrefix _ _ _).mono ?_
          rintro e w1 ⟨rfl, rfl⟩
          rw [Hp.out, Ht.out]
          go_wp2_with fail
          refine (cut_at t _ (Gb.out _ (by repeat' (first | exact Below.refl _ _ | (refine Below.setCell ?_ (by first | (simp; done) | (simp; omega) | omega) _) | (refine Below.drew ?_) | (refine Below.drewN ?_ _) | (refine Below.alloc ?_ (by first | (simp; done) | (simp; omega) | omega) _)))) ht).mono ?_
          rintro e w2 ⟨rfl, hB⟩
          rw [hfd]
          clear hfd
          go_wp2_with fail
          refine (number_at _ _).mono ?_
          rw [H1.out]
          rintro e w3 ⟨rfl, hB3⟩
          have hB' := hB.next hB3
          clear hB hB3
          go_wp2_with fail
          refine (number_at _ _).mono ?_
          rw [Hsnd.out, H2.out]
          rintro e w4 ⟨rfl, hB4⟩
          have hB := hB'.next hB4
          clear hB' hB4
          obtain ⟨hc4, hf4⟩ := bcell hB
          simp at hc4 hf4
          have hz4 : w.heap.size + 2 ≤ w4.heap.size := by have := hB.size; simp at this; omega
          have hz5 : w.heap.size + 1 < w4.heap.size := by omega
          have hz6 : w.heap.size < w4.heap.size := by omega
          have HB4 : Hid (Below w.heap.size w w4) := (by repeat' (first | exact Below.refl _ _ | (refine Below.setCell ?_ (by first | (simp; done) | (simp; omega) | omega) _) | (refine Below.drew ?_) | (refine Below.drewN ?_ _) | (refine Below.alloc ?_ (by first | (simp; done) | (simp; omega) | omega) _) | (refine Below.trans ?_ (Below.mono hB (by first | (simp; done) | (simp; omega) | omega)))))
          clear hB
          go_wp2_with fail
          rw [Hr.out]
          exact bodyPost_ret (v := .tuple #[.agg #[.int .i64 0, .int .i64 0], .bool false]) (by simp [results, Tryz.results10, go_sem, hc4, hz5]) rfl ⟨rfl, (by repeat' (first | exact Below.refl _ _ | (refine Below.setCell ?_ (by first | (simp; done) | (simp; omega) | omega) _) | (refine Below.drew ?_) | (refine Below.drewN ?_ _) | (refine Below.alloc ?_ (by first | (simp; done) | (simp; omega) | omega) _) | (refine Below.trans ?_ (Below.mono HB4.out (by first | (simp; done) | (simp; omega) | omega)))))⟩
      · cases h2 : isNum (sndL t)
        · have Hr := Lib.hid (Hbad.out (spanB_2 h2))
          have H1 := Lib.hid h1
          have H2 := Lib.hid h2
          clear h1 h2
          go_enter Tryz.func10, Tryz.ntmps10
          go_wp2_with fail
          refine (Tryz.strings_CutPrefix _ _ _).mono ?_
          rintro e w1 ⟨rfl, rfl⟩
          rw [Hp.out, Ht.out]
          go_wp2_with fail
          refine (cut_at t _ (Gb.out _ (by repeat' (first | exact Below.refl _ _ | (refine Below.setCell ?_ (by first | (simp; done) | (simp; omega) | omega) _) | (refine Below.drew ?_) | (refine Below.drewN ?_ _) | (refine Below.alloc ?_ (by first | (simp; done) | (simp; omega) | omega) _)))) ht).mono ?_
          rintro e w2 ⟨rfl, hB⟩
          rw [hfd]
          clear hfd
          go_wp2_with fail
          refine (number_at _ _).mono ?_
          rw [H1.out]
          rintro e w3 ⟨rfl, hB3⟩
          have hB' := hB.next hB3
          clear hB hB3
          go_wp2_with fail
          refine (number_at _ _).mono ?_
          rw [Hsnd.out, H2.out]
          rintro e w4 ⟨rfl, hB4⟩
          have hB := hB'.next hB4
          clear hB' hB4
          obtain ⟨hc4, hf4⟩ := bcell hB
          simp at hc4 hf4
          have hz4 : w.heap.size + 2 ≤ w4.heap.size := by have := hB.size; simp at this; omega
          have hz5 : w.heap.size + 1 < w4.heap.size := by omega
          have hz6 : w.heap.size < w4.heap.size := by omega
          have HB4 : Hid (Below w.heap.size w w4) := (by repeat' (first | exact Below.refl _ _ | (refine Below.setCell ?_ (by first | (simp; done) | (simp; omega) | omega) _) | (refine Below.drew ?_) | (refine Below.drewN ?_ _) | (refine Below.alloc ?_ (by first | (simp; done) | (simp; omega) | omega) _) | (refine Below.trans ?_ (Below.mono hB (by first | (simp; done) | (simp; omega) | omega)))))
          clear hB
          go_wp2_with fail
          rw [Hr.out]
          exact bodyPost_ret (v := .tuple #[.agg #[.int .i64 0, .int .i64 0], .bool false]) (by simp [results, Tryz.results10, go_sem, hc4, hz5]) rfl ⟨rfl, (by repeat' (first | exact Below.refl _ _ | (refine Below.setCell ?_ (by first | (simp; done) | (simp; omega) | omega) _) | (refine Below.drew ?_) | (refine Below.drewN ?_ _) | (refine Below.alloc ?_ (by first | (simp; done) | (simp; omega) | omega) _) | (refine Below.trans ?_ (Below.mono HB4.out (by first | (simp; done) | (simp; omega) | omega)))))⟩
        · by_cases h3 : numOf (fstL t) ≤ numOf (sndL t)
          · by_cases h4 : n ≤ numOf (sndL t)
            · have Hr := Lib.hid (Hbad.out (spanB_4 h2 h4))
              rw [Hsnd.out] at h3
              have H1 := Lib.hid h1
              have H2 := Lib.hid h2
              clear h1 h2
              go_enter Tryz.func10, Tryz.ntmps10
              go_wp2_with fail
              refine (Tryz.strings_CutPrefix _ _ _).mono ?_
              rintro e w1 ⟨rfl, rfl⟩
              rw [Hp.out, Ht.out]
              go_wp2_with fail
              refine (cut_at t _ (Gb.out _ (by repeat' (first | exact Below.refl _ _ | (refine Below.setCell ?_ (by first | (simp; done) | (simp; omega) | omega) _) | (refine Below.drew ?_) | (refine Below.drewN ?_ _) | (refine Below.alloc ?_ (by first | (simp; done) | (simp; omega) | omega) _)))) ht).mono ?_
              rintro e w2 ⟨rfl, hB⟩
              rw [hfd]
              clear hfd
              go_wp2_with fail
              refine (number_at _ _).mono ?_
              rw [H1.out]
              rintro e w3 ⟨rfl, hB3⟩
              have hB' := hB.next hB3
              clear hB hB3
              go_wp2_with fail
              refine (number_at _ _).mono ?_
              rw [Hsnd.out, H2.out]
              rintro e w4 ⟨rfl, hB4⟩
              have hB := hB'.next hB4
              clear hB' hB4
              obtain ⟨hc4, hf4⟩ := bcell hB
              simp at hc4 hf4
              have hz4 : w.heap.size + 2 ≤ w4.heap.size := by have := hB.size; simp at this; omega
              have hz5 : w.heap.size + 1 < w4.heap.size := by omega
              have hz6 : w.heap.size < w4.heap.size := by omega
              have HB4 : Hid (Below w.heap.size w w4) := (by repeat' (first | exact Below.refl _ _ | (refine Below.setCell ?_ (by first | (simp; done) | (simp; omega) | omega) _) | (refine Below.drew ?_) | (refine Below.drewN ?_ _) | (refine Below.alloc ?_ (by first | (simp; done) | (simp; omega) | omega) _) | (refine Below.trans ?_ (Below.mono hB (by first | (simp; done) | (simp; omega) | omega)))))
              clear hB
              go_wp2_with fail
              refine (beyond_ct _ _ _ _ _ _ _ _).mono ?_
              rw [decide_eq_true h4]
              rintro e w5 ⟨rfl, hB5⟩
              obtain ⟨hc5, hf5⟩ := bcell hB5
              simp at hc5 hf5
              have hz7 : w.heap.size + 1 < w5.heap.size := by have := hB5.size; simp at this; omega
              have hz8 : w.heap.size + 1 < w4.heap.size + 1 := by omega
              have HB5 : Hid (Below w.heap.size w w5) := (by repeat' (first | exact Below.refl _ _ | (refine Below.setCell ?_ (by first | (simp; done) | (simp; omega) | omega) _) | (refine Below.drew ?_) | (refine Below.drewN ?_ _) | (refine Below.alloc ?_ (by first | (simp; done) | (simp; omega) | omega) _) | (refine Below.trans ?_ (Below.mono hB5 (by first | (simp; done) | (simp; omega) | omega))) | (refine Below.trans ?_ (Below.mono HB4.out (by first | (simp; done) | (simp; omega) | omega)))))
              clear hB5
              go_wp2
              rw [Hr.out]
              exact bodyPost_ret (v := .tuple #[.agg #[.int .i64 0, .int .i64 0], .bool false]) (by simp [results, Tryz.results10, go_sem, hc5, hz8, hc4, hz5]) rfl ⟨rfl, (by repeat' (first | exact Below.refl _ _ | (refine Below.setCell ?_ (by first | (simp; done) | (simp; omega) | omega) _) | (refine Below.drew ?_) | (refine Below.drewN ?_ _) | (refine Below.alloc ?_ (by first | (simp; done) | (simp; omega) | omega) _) | (refine Below.trans ?_ (Below.mono HB5.out (by first | (simp; done) | (simp; omega) | omega)))))⟩
            · have Hr := Lib.hid (Hyes.out h1 h2 h3 h4)
              rw [Hsnd.out] at h3
              have H1 := Lib.hid h1
              have H2 := Lib.hid h2
              clear h1 h2
              go_enter Tryz.func10, Tryz.ntmps10
              go_wp2_with fail
              refine (Tryz.strings_CutPrefix _ _ _).mono ?_
              rintro e w1 ⟨rfl, rfl⟩
              rw [Hp.out, Ht.out]
              go_wp2_with fail
              refine (cut_at t _ (Gb.out _ (by repeat' (first | exact Below.refl _ _ | (refine Below.setCell ?_ (by first | (simp; done) | (simp; omega) | omega) _) | (refine Below.drew ?_) | (refine Below.drewN ?_ _) | (refine Below.alloc ?_ (by first | (simp; done) | (simp; omega) | omega) _)))) ht).mono ?_
              rintro e w2 ⟨rfl, hB⟩
              rw [hfd]
              clear hfd
              go_wp2_with fail
              refine (number_at _ _).mono ?_
              rw [H1.out]
              rintro e w3 ⟨rfl, hB3⟩
              have hB' := hB.next hB3
              clear hB hB3
              go_wp2_with fail
              refine (number_at _ _).mono ?_
              rw [Hsnd.out, H2.out]
              rintro e w4 ⟨rfl, hB4⟩
              have hB := hB'.next hB4
              clear hB' hB4
              obtain ⟨hc4, hf4⟩ := bcell hB
              simp at hc4 hf4
              have hz4 : w.heap.size + 2 ≤ w4.heap.size := by have := hB.size; simp at this; omega
              have hz5 : w.heap.size + 1 < w4.heap.size := by omega
              have hz6 : w.heap.size < w4.heap.size := by omega
              have HB4 : Hid (Below w.heap.size w w4) := (by repeat' (first | exact Below.refl _ _ | (refine Below.setCell ?_ (by first | (simp; done) | (simp; omega) | omega) _) | (refine Below.drew ?_) | (refine Below.drewN ?_ _) | (refine Below.alloc ?_ (by first | (simp; done) | (simp; omega) | omega) _) | (refine Below.trans ?_ (Below.mono hB (by first | (simp; done) | (simp; omega) | omega)))))
              clear hB
              go_wp2_with fail
              refine (beyond_ct _ _ _ _ _ _ _ _).mono ?_
              rw [decide_eq_false (show ¬ n ≤ numOf (sndL t) by omega)]
              rintro e w5 ⟨rfl, hB5⟩
              obtain ⟨hc5, hf5⟩ := bcell hB5
              simp at hc5 hf5
              have hz7 : w.heap.size + 1 < w5.heap.size := by have := hB5.size; simp at this; omega
              have hz8 : w.heap.size + 1 < w4.heap.size + 1 := by omega
              have HB5 : Hid (Below w.heap.size w w5) := (by repeat' (first | exact Below.refl _ _ | (refine Below.setCell ?_ (by first | (simp; done) | (simp; omega) | omega) _) | (refine Below.drew ?_) | (refine Below.drewN ?_ _) | (refine Below.alloc ?_ (by first | (simp; done) | (simp; omega) | omega) _) | (refine Below.trans ?_ (Below.mono hB5 (by first | (simp; done) | (simp; omega) | omega))) | (refine Below.trans ?_ (Below.mono HB4.out (by first | (simp; done) | (simp; omega) | omega)))))
              clear hB5
              go_wp2
              rw [Hr.out, Hsnd.out]
              exact bodyPost_ret (v := .tuple #[.agg #[.int .i64 (numOf (sndL t)), .int .i64 (numOf (sndL t))], .bool true]) (by simp [results, Tryz.results10, go_sem, hc5, hz8, hc4, hz5]) rfl ⟨rfl, (by repeat' (first | exact Below.refl _ _ | (refine Below.setCell ?_ (by first | (simp; done) | (simp; omega) | omega) _) | (refine Below.drew ?_) | (refine Below.drewN ?_ _) | (refine Below.alloc ?_ (by first | (simp; done) | (simp; omega) | omega) _) | (refine Below.trans ?_ (Below.mono HB5.out (by first | (simp; done) | (simp; omega) | omega)))))⟩
          · rw [Hsnd.out] at h3; exact absurd (Int.le_refl _) h3
    · skip
      cases h1 : isNum (fstL t)
      · have Hr := Lib.hid (Hbad.out (spanB_1 h1))
        cases h2 : isNum (sndL t)
        all_goals
          have H1 := Lib.hid h1
          have H2 := Lib.hid h2
          clear h1 h2
          go_enter Tryz.func10, Tryz.ntmps10
          go_wp2_with fail
          refine (Tryz.strings_CutPrefix _ _ _).mono ?_
          rintro e w1 ⟨rfl, rfl⟩
          rw [Hp.out, Ht.out]
          go_wp2_with fail
          refine (cut_at t _ (Gb.out _ (by repeat' (first | exact Below.refl _ _ | (refine Below.setCell ?_ (by first | (simp; done) | (simp; omega) | omega) _) | (refine Below.drew ?_) | (refine Below.drewN ?_ _) | (refine Below.alloc ?_ (by first | (simp; done) | (simp; omega) | omega) _)))) ht).mono ?_
          rintro e w2 ⟨rfl, hB⟩
          rw [hfd, sndL_yes t hfd]
          clear hfd
          go_wp2_with fail
          refine (number_at _ _).mono ?_
          rw [H1.out]
          rintro e w3 ⟨rfl, hB3⟩
          have hB' := hB.next hB3
          clear hB hB3
          go_wp2_with fail
          refine (number_at _ _).mono ?_
          rw [H2.out]
          rintro e w4 ⟨rfl, hB4⟩
          have hB := hB'.next hB4
          clear hB' hB4
          obtain ⟨hc4, hf4⟩ := bcell hB
          simp at hc4 hf4
          have hz4 : w.heap.size + 2 ≤ w4.heap.size := by have := hB.size; simp at this; omega
          have hz5 : w.heap.size + 1 < w4.heap.size := by omega
          have hz6 : w.heap.size < w4.heap.size := by omega
          have HB4 : Hid (Below w.heap.size w w4) := (by repeat' (first | exact Below.refl _ _ | (refine Below.setCell ?_ (by first | (simp; done) | (simp; omega) | omega) _) | (refine Below.drew ?_) | (refine Below.drewN ?_ _) | (refine Below.alloc ?_ (by first | (simp; done) | (simp; omega) | omega) _) | (refine Below.trans ?_ (Below.mono hB (by first | (simp; done) | (simp; omega) | omega)))))
          clear hB
          go_wp2_with fail
          rw [Hr.out]
          exact bodyPost_ret (v := .tuple #[.agg #[.int .i64 0, .int .i64 0], .bool false]) (by simp [results, Tryz.results10, go_sem, hc4, hz5]) rfl ⟨rfl, (by repeat' (first | exact Below.refl _ _ | (refine Below.setCell ?_ (by first | (simp; done) | (simp; omega) | omega) _) | (refine Below.drew ?_) | (refine Below.drewN ?_ _) | (refine Below.alloc ?_ (by first | (simp; done) | (simp; omega) | omega) _) | (refine Below.trans ?_ (Below.mono HB4.out (by first | (simp; done) | (simp; omega) | omega)))))⟩
      · cases h2 : isNum (sndL t)
        · have Hr := Lib.hid (Hbad.out (spanB_2 h2))
          have H1 := Lib.hid h1
          have H2 := Lib.hid h2
          clear h1 h2
          go_enter Tryz.func10, Tryz.ntmps10
          go_wp2_with fail
          refine (Tryz.strings_CutPrefix _ _ _).mono ?_
          rintro e w1 ⟨rfl, rfl⟩
          rw [Hp.out, Ht.out]
          go_wp2_with fail
          refine (cut_at t _ (Gb.out _ (by repeat' (first | exact Below.refl _ _ | (refine Below.setCell ?_ (by first | (simp; done) | (simp; omega) | omega) _) | (refine Below.drew ?_) | (refine Below.drewN ?_ _) | (refine Below.alloc ?_ (by first | (simp; done) | (simp; omega) | omega) _)))) ht).mono ?_
          rintro e w2 ⟨rfl, hB⟩
          rw [hfd, sndL_yes t hfd]
          clear hfd
          go_wp2_with fail
          refine (number_at _ _).mono ?_
          rw [H1.out]
          rintro e w3 ⟨rfl, hB3⟩
          have hB' := hB.next hB3
          clear hB hB3
          go_wp2_with fail
          refine (number_at _ _).mono ?_
          rw [H2.out]
          rintro e w4 ⟨rfl, hB4⟩
          have hB := hB'.next hB4
          clear hB' hB4
          obtain ⟨hc4, hf4⟩ := bcell hB
          simp at hc4 hf4
          have hz4 : w.heap.size + 2 ≤ w4.heap.size := by have := hB.size; simp at this; omega
          have hz5 : w.heap.size + 1 < w4.heap.size := by omega
          have hz6 : w.heap.size < w4.heap.size := by omega
          have HB4 : Hid (Below w.heap.size w w4) := (by repeat' (first | exact Below.refl _ _ | (refine Below.setCell ?_ (by first | (simp; done) | (simp; omega) | omega) _) | (refine Below.drew ?_) | (refine Below.drewN ?_ _) | (refine Below.alloc ?_ (by first | (simp; done) | (simp; omega) | omega) _) | (refine Below.trans ?_ (Below.mono hB (by first | (simp; done) | (simp; omega) | omega)))))
          clear hB
          go_wp2_with fail
          rw [Hr.out]
          exact bodyPost_ret (v := .tuple #[.agg #[.int .i64 0, .int .i64 0], .bool false]) (by simp [results, Tryz.results10, go_sem, hc4, hz5]) rfl ⟨rfl, (by repeat' (first | exact Below.refl _ _ | (refine Below.setCell ?_ (by first | (simp; done) | (simp; omega) | omega) _) | (refine Below.drew ?_) | (refine Below.drewN ?_ _) | (refine Below.alloc ?_ (by first | (simp; done) | (simp; omega) | omega) _) | (refine Below.trans ?_ (Below.mono HB4.out (by first | (simp; done) | (simp; omega) | omega)))))⟩
        · by_cases h3 : numOf (fstL t) ≤ numOf (sndL t)
          · by_cases h4 : n ≤ numOf (sndL t)
            · have Hr := Lib.hid (Hbad.out (spanB_4 h2 h4))
              have H1 := Lib.hid h1
              have H2 := Lib.hid h2
              clear h1 h2
              go_enter Tryz.func10, Tryz.ntmps10
              go_wp2_with fail
              refine (Tryz.strings_CutPrefix _ _ _).mono ?_
              rintro e w1 ⟨rfl, rfl⟩
              rw [Hp.out, Ht.out]
              go_wp2_with fail
              refine (cut_at t _ (Gb.out _ (by repeat' (first | exact Below.refl _ _ | (refine Below.setCell ?_ (by first | (simp; done) | (simp; omega) | omega) _) | (refine Below.drew ?_) | (refine Below.drewN ?_ _) | (refine Below.alloc ?_ (by first | (simp; done) | (simp; omega) | omega) _)))) ht).mono ?_
              rintro e w2 ⟨rfl, hB⟩
              rw [hfd, sndL_yes t hfd]
              clear hfd
              go_wp2_with fail
              refine (number_at _ _).mono ?_
              rw [H1.out]
              rintro e w3 ⟨rfl, hB3⟩
              have hB' := hB.next hB3
              clear hB hB3
              go_wp2_with fail
              refine (number_at _ _).mono ?_
              rw [H2.out]
              rintro e w4 ⟨rfl, hB4⟩
              have hB := hB'.next hB4
              clear hB' hB4
              obtain ⟨hc4, hf4⟩ := bcell hB
              simp at hc4 hf4
              have hz4 : w.heap.size + 2 ≤ w4.heap.size := by have := hB.size; simp at this; omega
              have hz5 : w.heap.size + 1 < w4.heap.size := by omega
              have hz6 : w.heap.size < w4.heap.size := by omega
              have HB4 : Hid (Below w.heap.size w w4) := (by repeat' (first | exact Below.refl _ _ | (refine Below.setCell ?_ (by first | (simp; done) | (simp; omega) | omega) _) | (refine Below.drew ?_) | (refine Below.drewN ?_ _) | (refine Below.alloc ?_ (by first | (simp; done) | (simp; omega) | omega) _) | (refine Below.trans ?_ (Below.mono hB (by first | (simp; done) | (simp; omega) | omega)))))
              clear hB
              go_wp2_with fail
              refine (beyond_ct _ _ _ _ _ _ _ _).mono ?_
              rw [decide_eq_true h4]
              rintro e w5 ⟨rfl, hB5⟩
              obtain ⟨hc5, hf5⟩ := bcell hB5
              simp at hc5 hf5
              have hz7 : w.heap.size + 1 < w5.heap.size := by have := hB5.size; simp at this; omega
              have hz8 : w.heap.size + 1 < w4.heap.size + 1 := by omega
              have HB5 : Hid (Below w.heap.size w w5) := (by repeat' (first | exact Below.refl _ _ | (refine Below.setCell ?_ (by first | (simp; done) | (simp; omega) | omega) _) | (refine Below.drew ?_) | (refine Below.drewN ?_ _) | (refine Below.alloc ?_ (by first | (simp; done) | (simp; omega) | omega) _) | (refine Below.trans ?_ (Below.mono hB5 (by first | (simp; done) | (simp; omega) | omega))) | (refine Below.trans ?_ (Below.mono HB4.out (by first | (simp; done) | (simp; omega) | omega)))))
              clear hB5
              go_wp2
              rw [Hr.out]
              exact bodyPost_ret (v := .tuple #[.agg #[.int .i64 0, .int .i64 0], .bool false]) (by simp [results, Tryz.results10, go_sem, hc5, hz8, hc4, hz5]) rfl ⟨rfl, (by repeat' (first | exact Below.refl _ _ | (refine Below.setCell ?_ (by first | (simp; done) | (simp; omega) | omega) _) | (refine Below.drew ?_) | (refine Below.drewN ?_ _) | (refine Below.alloc ?_ (by first | (simp; done) | (simp; omega) | omega) _) | (refine Below.trans ?_ (Below.mono HB5.out (by first | (simp; done) | (simp; omega) | omega)))))⟩
            · have Hr := Lib.hid (Hyes.out h1 h2 h3 h4)
              have H1 := Lib.hid h1
              have H2 := Lib.hid h2
              clear h1 h2
              go_enter Tryz.func10, Tryz.ntmps10
              go_wp2_with fail
              refine (Tryz.strings_CutPrefix _ _ _).mono ?_
              rintro e w1 ⟨rfl, rfl⟩
              rw [Hp.out, Ht.out]
              go_wp2_with fail
              refine (cut_at t _ (Gb.out _ (by repeat' (first | exact Below.refl _ _ | (refine Below.setCell ?_ (by first | (simp; done) | (simp; omega) | omega) _) | (refine Below.drew ?_) | (refine Below.drewN ?_ _) | (refine Below.alloc ?_ (by first | (simp; done) | (simp; omega) | omega) _)))) ht).mono ?_
              rintro e w2 ⟨rfl, hB⟩
              rw [hfd, sndL_yes t hfd]
              clear hfd
              go_wp2_with fail
              refine (number_at _ _).mono ?_
              rw [H1.out]
              rintro e w3 ⟨rfl, hB3⟩
              have hB' := hB.next hB3
              clear hB hB3
              go_wp2_with fail
              refine (number_at _ _).mono ?_
              rw [H2.out]
              rintro e w4 ⟨rfl, hB4⟩
              have hB := hB'.next hB4
              clear hB' hB4
              obtain ⟨hc4, hf4⟩ := bcell hB
              simp at hc4 hf4
              have hz4 : w.heap.size + 2 ≤ w4.heap.size := by have := hB.size; simp at this; omega
              have hz5 : w.heap.size + 1 < w4.heap.size := by omega
              have hz6 : w.heap.size < w4.heap.size := by omega
              have HB4 : Hid (Below w.heap.size w w4) := (by repeat' (first | exact Below.refl _ _ | (refine Below.setCell ?_ (by first | (simp; done) | (simp; omega) | omega) _) | (refine Below.drew ?_) | (refine Below.drewN ?_ _) | (refine Below.alloc ?_ (by first | (simp; done) | (simp; omega) | omega) _) | (refine Below.trans ?_ (Below.mono hB (by first | (simp; done) | (simp; omega) | omega)))))
              clear hB
              go_wp2_with fail
              refine (beyond_ct _ _ _ _ _ _ _ _).mono ?_
              rw [decide_eq_false (show ¬ n ≤ numOf (sndL t) by omega)]
              rintro e w5 ⟨rfl, hB5⟩
              obtain ⟨hc5, hf5⟩ := bcell hB5
              simp at hc5 hf5
              have hz7 : w.heap.size + 1 < w5.heap.size := by have := hB5.size; simp at this; omega
              have hz8 : w.heap.size + 1 < w4.heap.size + 1 := by omega
              have HB5 : Hid (Below w.heap.size w w5) := (by repeat' (first | exact Below.refl _ _ | (refine Below.setCell ?_ (by first | (simp; done) | (simp; omega) | omega) _) | (refine Below.drew ?_) | (refine Below.drewN ?_ _) | (refine Below.alloc ?_ (by first | (simp; done) | (simp; omega) | omega) _) | (refine Below.trans ?_ (Below.mono hB5 (by first | (simp; done) | (simp; omega) | omega))) | (refine Below.trans ?_ (Below.mono HB4.out (by first | (simp; done) | (simp; omega) | omega)))))
              clear hB5
              go_wp2
              rw [Hr.out]
              exact bodyPost_ret (v := .tuple #[.agg #[.int .i64 (numOf (fstL t)), .int .i64 (numOf (sndL t))], .bool true]) (by simp [results, Tryz.results10, go_sem, hc5, hz8, hc4, hz5]) rfl ⟨rfl, (by repeat' (first | exact Below.refl _ _ | (refine Below.setCell ?_ (by first | (simp; done) | (simp; omega) | omega) _) | (refine Below.drew ?_) | (refine Below.drewN ?_ _) | (refine Below.alloc ?_ (by first | (simp; done) | (simp; omega) | omega) _) | (refine Below.trans ?_ (Below.mono HB5.out (by first | (simp; done) | (simp; omega) | omega)))))⟩
          · have Hr := Lib.hid (Hbad.out (spanB_3 h1 h2 h3))
            have H1 := Lib.hid h1
            have H2 := Lib.hid h2
            clear h1 h2
            go_enter Tryz.func10, Tryz.ntmps10
            go_wp2_with fail
            refine (Tryz.strings_CutPrefix _ _ _).mono ?_
            rintro e w1 ⟨rfl, rfl⟩
            rw [Hp.out, Ht.out]
            go_wp2_with fail
            refine (cut_at t _ (Gb.out _ (by repeat' (first | exact Below.refl _ _ | (refine Below.setCell ?_ (by first | (simp; done) | (simp; omega) | omega) _) | (refine Below.drew ?_) | (refine Below.drewN ?_ _) | (refine Below.alloc ?_ (by first | (simp; done) | (simp; omega) | omega) _)))) ht).mono ?_
            rintro e w2 ⟨rfl, hB⟩
            rw [hfd, sndL_yes t hfd]
            clear hfd
            go_wp2_with fail
            refine (number_at _ _).mono ?_
            rw [H1.out]
            rintro e w3 ⟨rfl, hB3⟩
            have hB' := hB.next hB3
            clear hB hB3
            go_wp2_with fail
            refine (number_at _ _).mono ?_
            rw [H2.out]
            rintro e w4 ⟨rfl, hB4⟩
            have hB := hB'.next hB4
            clear hB' hB4
            obtain ⟨hc4, hf4⟩ := bcell hB
            simp at hc4 hf4
            have hz4 : w.heap.size + 2 ≤ w4.heap.size := by have := hB.size; simp at this; omega
            have hz5 : w.heap.size + 1 < w4.heap.size := by omega
            have hz6 : w.heap.size < w4.heap.size := by omega
            have HB4 : Hid (Below w.heap.size w w4) := (by repeat' (first | exact Below.refl _ _ | (refine Below.setCell ?_ (by first | (simp; done) | (simp; omega) | omega) _) | (refine Below.drew ?_) | (refine Below.drewN ?_ _) | (refine Below.alloc ?_ (by first | (simp; done) | (simp; omega) | omega) _) | (refine Below.trans ?_ (Below.mono hB (by first | (simp; done) | (simp; omega) | omega)))))
            clear hB
            go_wp2_with fail
            rw [Hr.out]
            exact bodyPost_ret (v := .tuple #[.agg #[.int .i64 0, .int .i64 0], .bool false]) (by simp [results, Tryz.results10, go_sem, hc4, hz5]) rfl ⟨rfl, (by repeat' (first | exact Below.refl _ _ | (refine Below.setCell ?_ (by first | (simp; done) | (simp; omega) | omega) _) | (refine Below.drew ?_) | (refine Below.drewN ?_ _) | (refine Below.alloc ?_ (by first | (simp; done) | (simp; omega) | omega) _) | (refine Below.trans ?_ (Below.mono HB4.out (by first | (simp; done) | (simp; omega) | omega)))))⟩
end Go.Proofs.YtfceifmhlmiiiaaGreatDoor
