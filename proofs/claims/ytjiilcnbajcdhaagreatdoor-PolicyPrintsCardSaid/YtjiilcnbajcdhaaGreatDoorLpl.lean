/-
  PolicyLines, walked: it returns true, whatever the texts. Over this seat's translation, where the variables hold what their texts lay.
-/
import Derived.Test.YtjiilcnbajcdhaaGreatDoorAwp
import Derived.Test.YtjiilcnbajcdhaaGreatDoorJon
import Derived.Test.YtjiilcnbajcdhaaGreatDoorRsm
namespace Go.Proofs.YtjiilcnbajcdhaaGreatDoor
open Go.RowKit Go.Shelf

def PNo (w : World) (e : Ending) (w' : World) : Prop := ∃ k : Nat, e = .returned (.tuple #[.agg #[.bool false, .bool false, .slice none 0 0, .slice none 0 0], .int .i64 ((k : Int) + 1), .int .i64 7]) ∧ k ≤ 5000 ∧ Below w.heap.size w w'
def PYes (ls : List (List UInt8)) (w : World) (e : Ending) (w' : World) : Prop := ∃ sv tv ra sa, e = .returned (.tuple #[polV (anyP1 ls) (anyP2 ls) sv tv, .int .i64 0, .int .i64 0]) ∧ Rg w' sv ra ∧ Rg w' tv sa ∧ Tidied (rams ls) ra ∧ Tidied (saves ls) sa ∧ Below w.heap.size w w'
theorem parse_no (s : ByteArray) (w : World) (G : Glob w) (hs : s.size ≤ 4096) (h : noBad (linesOf s.data.toList) = false) : Calls Tryz.prog 6 #[.string s] w (PNo w) := by
  refine (parse_in s w G hs).mono ?_
  intro e w' hp
  rcases hp with ⟨k, hk, _, _, rfl, hb⟩ | ⟨hn, _⟩
  · have h1 := linesOf_len s.data.toList
    have h2 : s.data.toList.length = s.size := by rw [Array.length_toList]; rfl
    exact ⟨k, by rw [show ((k + 1 : Nat) : Int) = (k : Int) + 1 by omega], by omega, hb⟩
  · rw [h] at hn; cases hn
theorem noBad_take {ls : List (List UInt8)} {k : Nat} (h : noBad ls = true) (hk : k < ls.length) : isBad (ls.getD k []) = false := by
  have := List.all_eq_true.1 h (ls.getD k []) (mem_getD ls k [] hk)
  simpa using this
theorem parse_yes (s : ByteArray) (w : World) (G : Glob w) (hs : s.size ≤ 4096) (h : noBad (linesOf s.data.toList) = true) : Calls Tryz.prog 6 #[.string s] w (PYes (linesOf s.data.toList) w) := by
  refine (parse_in s w G hs).mono ?_
  intro e w' hp
  rcases hp with ⟨k, hk, _, hbad, _⟩ | ⟨_, sv, tv, ra, sa, h1⟩
  · rw [noBad_take h hk] at hbad; cases hbad
  · exact ⟨sv, tv, ra, sa, h1⟩
theorem tidied_top {n : Int} {l T : List (Int × Int)} (h : Tidied l T) (hl : ∀ r ∈ l, r.2 < n) : areaMay n T = true := by
  have hm := (mayB_iff T 0).1 h.1
  have ht : topB n T = false := by
    cases hc : topB n T
    · rfl
    · obtain ⟨r, hr, hn⟩ := List.any_eq_true.1 hc
      have h2 := rise_mem T hm.1 r hr
      have h3 : inB T r.2 = true := (inB_iff _ _).2 ⟨r, hr, h2.2, Int.le_refl _⟩
      rw [h.2] at h3
      obtain ⟨q, hq, h4, h5⟩ := (inB_iff _ _).1 h3
      have := hl q hq
      have h6 : n ≤ r.2 := by simpa using hn
      omega
  unfold areaMay
  rw [h.1, ht]; rfl
theorem parse_may {ls : List (List UInt8)} {ra sa : List (Int × Int)} (h1 : Tidied (rams ls) ra) (h2 : Tidied (saves ls) sa) : polMay ra sa = true := by
  unfold polMay
  rw [tidied_top h1 (rams_top ls), tidied_top h2 (saves_top ls)]; rfl
theorem tidied_both {a b A B J : List (Int × Int)} (h1 : Tidied a A) (h2 : Tidied b B) (h3 : Tidied (A ++ B) J) : Tidied (a ++ b) J := ⟨h3.1, fun x => by rw [h3.2, inB_append, inB_append, h1.2, h2.2]⟩
theorem lines_two (s t : ByteArray) : linesOf (s ++ ⟨#[10]⟩ ++ t).data.toList = linesOf s.data.toList ++ linesOf t.data.toList := by
  rw [← linesOf_append]
  congr 1
  simp [ByteArray.data_append]
theorem lines_rem (s r t : ByteArray) (h : 10 ∉ r.data.toList) : linesOf (s ++ ⟨#[10, 35]⟩ ++ r ++ ⟨#[10, 10]⟩ ++ t).data.toList = linesOf s.data.toList ++ ((35 :: r.data.toList) :: [] :: linesOf t.data.toList) := by
  have e : (s ++ ⟨#[10, 35]⟩ ++ r ++ ⟨#[10, 10]⟩ ++ t).data.toList = s.data.toList ++ 10 :: ((35 :: r.data.toList) ++ 10 :: ([] ++ 10 :: t.data.toList)) := by simp [ByteArray.data_append]
  rw [e, linesOf_append, linesOf_first (35 :: r.data.toList) _ (by simp [h]), linesOf_first [] _ (by simp)]
theorem cls_rem (l : List UInt8) : cls (35 :: l) = .skip := by unfold cls; rw [if_pos (by simp [isSkip])]
theorem cls_nil : cls [] = .skip := by unfold cls; rw [if_pos (by rfl)]
theorem rem_all (a b : List (List UInt8)) (l : List UInt8) : noBad (a ++ ((35 :: l) :: [] :: b)) = (noBad a && noBad b) ∧ anyP1 (a ++ ((35 :: l) :: [] :: b)) = (anyP1 a || anyP1 b) ∧ anyP2 (a ++ ((35 :: l) :: [] :: b)) = (anyP2 a || anyP2 b) ∧ rams (a ++ ((35 :: l) :: [] :: b)) = rams a ++ rams b ∧ saves (a ++ ((35 :: l) :: [] :: b)) = saves a ++ saves b := by
  refine ⟨?_, ?_, ?_, ?_, ?_⟩
  · simp [noBad, isBad, cls_rem, cls_nil]
  · simp [anyP1, cls_rem, cls_nil]
  · simp [anyP2, cls_rem, cls_nil]
  · simp [rams, ramOf, cls_rem, cls_nil]
  · simp [saves, saveOf, cls_rem, cls_nil]
def PAny (w : World) (e : Ending) (w' : World) : Prop := ∃ (p q : Bool) (a b : Option Addr) (n c m d : Nat) (x y : Int), e = .returned (.tuple #[.agg #[.bool p, .bool q, .slice a n c, .slice b m d], .int .i64 x, .int .i64 y]) ∧ Below w.heap.size w w'
end Go.Proofs.YtjiilcnbajcdhaaGreatDoor
