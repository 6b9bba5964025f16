/-
  The chapter's examples of layer 3 ('awake'): each comes out. Over this seat's translation, where the variables hold what their texts lay.
-/
import Derived.Test.YtfceifmhlmiiiaaGreatDoorPar
import Derived.Test.YtfceifmhlmiiiaaGreatDoorPrt
import Derived.Test.YtfceifmhlmiiiaaGreatDoorNon
namespace Go.Proofs.YtfceifmhlmiiiaaGreatDoor
open Go.RowKit Go.Shelf

theorem lines_800 : linesOf [114, 97, 109, 32, 56, 48, 48] = [[114, 97, 109, 32, 56, 48, 48]] := by decide
theorem bad_800 : isBad [114, 97, 109, 32, 56, 48, 48] = true := by decide +kernel
theorem parse_800 (w : World) (G : Glob w) : Calls Tryz.prog 4 #[.string ⟨#[114, 97, 109, 32, 56, 48, 48]⟩] w fun e w' => e = .returned (.tuple #[.agg #[.bool false, .bool false, .slice none 0 0, .slice none 0 0], .int .i64 1, .int .i64 7]) ∧ Below w.heap.size w w' := by
  refine (parse_in ⟨#[114, 97, 109, 32, 56, 48, 48]⟩ w G (by decide)).mono ?_
  intro e w' h
  have hl : linesOf (ByteArray.mk #[114, 97, 109, 32, 56, 48, 48]).data.toList = [[114, 97, 109, 32, 56, 48, 48]] := lines_800
  rw [hl] at h
  rcases h with ⟨k, hk, _, _, rfl, hb⟩ | ⟨hn, _⟩
  · obtain rfl : k = 0 := by simpa using hk
    exact ⟨rfl, hb⟩
  · simp [noBad, bad_800] at hn
theorem parse_empty (w : World) (G : Glob w) : Calls Tryz.prog 4 #[.string ⟨#[]⟩] w fun e w' => ∃ sv tv, e = .returned (.tuple #[polV false false sv tv, .int .i64 0, .int .i64 0]) ∧ Rg w' sv [] ∧ Rg w' tv [] ∧ Below w.heap.size w w' := by
  refine (parse_in ⟨#[]⟩ w G (by decide)).mono ?_
  intro e w' h
  have hl : linesOf (ByteArray.mk #[]).data.toList = [[]] := rfl
  rw [hl] at h
  have hr : rams [[]] = [] := rfl
  have hs : saves [[]] = [] := rfl
  rcases h with ⟨k, hk, _, hb, _⟩ | ⟨_, sv, tv, ra, sa, rfl, h1, h2, h3, h4, hb⟩
  · obtain rfl : k = 0 := by simpa using hk
    simp [isBad, cls, isSkip] at hb
  · rw [hr] at h3
    rw [hs] at h4
    obtain rfl : ra = [] := h3.uniq (Tidied.self rfl)
    obtain rfl : sa = [] := h4.uniq (Tidied.self rfl)
    exact ⟨sv, tv, rfl, h1, h2, hb⟩
def exText : ByteArray := ⟨#[112, 111, 114, 116, 32, 49, 10, 114, 97, 109, 32, 48, 48, 49, 48, 45, 48, 48, 49, 102, 10]⟩
theorem ex_text : (⟨(printL true false [(16, 31)] []).toArray⟩ : ByteArray) = exText := by decide +kernel
set_option maxRecDepth 100000 in
set_option maxHeartbeats 4000000 in
theorem pawake_ct (w : World) (G : Glob w) : Calls Tryz.prog 7 #[] w fun e w' => e = .returned (.bool true) ∧ Below w.heap.size w w' := by
  have Gb : Hid (∀ w', Below w.heap.size w w' → Glob w') := fun _ hb => G.below hb
  clear G
  go_enter Tryz.func7, Tryz.ntmps7
  go_wp2_with fail
  have hr := (rg1 (w := w) rfl 16 31 42).below (w' := (w.alloc (.cells #[.int .i64 16, .int .i64 31] 42)).alloc (.cells #[.bool true, .bool false, .slice (some ⟨w.heap.size, 0, none⟩) 1 1, .slice none 0 0] 25)) (by repeat' (first | exact Below.refl _ _ | (refine Below.setCell ?_ (by first | (simp; done) | (simp; omega) | omega) _) | (refine Below.drew ?_) | (refine Below.drewN ?_ _) | (refine Below.alloc ?_ (by first | (simp; done) | (simp; omega) | omega) _)))
  refine (print_yes true false _ _ [(16, 31)] [] _ (Gb.out _ (by repeat' (first | exact Below.refl _ _ | (refine Below.setCell ?_ (by first | (simp; done) | (simp; omega) | omega) _) | (refine Below.drew ?_) | (refine Below.drewN ?_ _) | (refine Below.alloc ?_ (by first | (simp; done) | (simp; omega) | omega) _)))) hr (rg0 _) (by decide) (by decide) (by decide)).mono ?_
  rw [ex_text]
  rintro e w1 ⟨rfl, hB1⟩
  have hb1 : Below w.heap.size w w1 := (by repeat' (first | exact Below.refl _ _ | (refine Below.setCell ?_ (by first | (simp; done) | (simp; omega) | omega) _) | (refine Below.drew ?_) | (refine Below.drewN ?_ _) | (refine Below.alloc ?_ (by first | (simp; done) | (simp; omega) | omega) _) | (refine Below.trans ?_ (Below.mono hB1 (by first | (simp; done) | (simp; omega) | omega)))))
  have Hb1 := Lib.hid hb1
  clear hr hB1 hb1
  go_wp2_with fail
  refine (parse_800 _ (Gb.out _ Hb1.out)).mono ?_
  rintro e w2 ⟨rfl, hB2⟩
  have Hb2 := Lib.hid (Hb1.out.next hB2)
  have hz2 := Hb2.out.size
  clear hB2
  go_wp2_with fail
  refine (parse_empty _ (Gb.out _ (by repeat' (first | exact Below.refl _ _ | (refine Below.setCell ?_ (by first | (simp; done) | (simp; omega) | omega) _) | (refine Below.drew ?_) | (refine Below.drewN ?_ _) | (refine Below.alloc ?_ (by first | (simp; done) | (simp; omega) | omega) _) | (refine Below.trans ?_ (Below.mono Hb2.out (by first | (simp; done) | (simp; omega) | omega))))))).mono ?_
  rintro e w3 ⟨sv, tv, rfl, h1, h2, hB3⟩
  have hb3 : Below w.heap.size w w3 := (by repeat' (first | exact Below.refl _ _ | (refine Below.setCell ?_ (by first | (simp; done) | (simp; omega) | omega) _) | (refine Below.drew ?_) | (refine Below.drewN ?_ _) | (refine Below.alloc ?_ (by first | (simp; done) | (simp; omega) | omega) _) | (refine Below.trans ?_ (Below.mono hB3 (by first | (simp; done) | (simp; omega) | omega))) | (refine Below.trans ?_ (Below.mono Hb2.out (by first | (simp; done) | (simp; omega) | omega)))))
  have Hb3 := Lib.hid hb3
  have hz3 := Hb3.out.size
  obtain ⟨a1, c1, rfl, _⟩ := id h1
  obtain ⟨a2, c2, rfl, _⟩ := id h2
  have h1' := h1.below (w' := w3.alloc (.cells #[.bool false, .bool false, .slice a1 0 c1, .slice a2 0 c2] 25)) (by repeat' (first | exact Below.refl _ _ | (refine Below.setCell ?_ (by first | (simp; done) | (simp; omega) | omega) _) | (refine Below.drew ?_) | (refine Below.drewN ?_ _) | (refine Below.alloc ?_ (by first | (simp; done) | (simp; omega) | omega) _)))
  have h2' := h2.below (w' := w3.alloc (.cells #[.bool false, .bool false, .slice a1 0 c1, .slice a2 0 c2] 25)) (by repeat' (first | exact Below.refl _ _ | (refine Below.setCell ?_ (by first | (simp; done) | (simp; omega) | omega) _) | (refine Below.drew ?_) | (refine Below.drewN ?_ _) | (refine Below.alloc ?_ (by first | (simp; done) | (simp; omega) | omega) _)))
  have hn : Calls Tryz.prog 16 #[.agg #[.bool false, .bool false, .slice a1 0 c1, .slice a2 0 c2]] _ fun e w' => e = .returned (.bool true) ∧ _ := none_ct false false _ _ [] [] _ h1' h2'
  have Hn := Lib.hid hn
  clear h1' h2' hn hb3 hB3 h1 h2
  have htx : (exText.toList == [112, 111, 114, 116, 32, 49, 10, 114, 97, 109, 32, 48, 48, 49, 48, 45, 48, 48, 49, 102, 10]) = true := by
    rw [ByteArray.toList_eq]; decide
  unfold polV
  go_wp2_with fail
  refine Hn.out.mono ?_
  rintro e w4 ⟨rfl, hB4⟩
  have hb4 : Below w.heap.size w w4 := (by repeat' (first | exact Below.refl _ _ | (refine Below.setCell ?_ (by first | (simp; done) | (simp; omega) | omega) _) | (refine Below.drew ?_) | (refine Below.drewN ?_ _) | (refine Below.alloc ?_ (by first | (simp; done) | (simp; omega) | omega) _) | (refine Below.trans ?_ (Below.mono hB4 (by first | (simp; done) | (simp; omega) | omega))) | (refine Below.trans ?_ (Below.mono Hb3.out (by first | (simp; done) | (simp; omega) | omega)))))
  go_wp2
  go_ret
  exact ⟨rfl, hb4⟩
end Go.Proofs.YtfceifmhlmiiiaaGreatDoor
