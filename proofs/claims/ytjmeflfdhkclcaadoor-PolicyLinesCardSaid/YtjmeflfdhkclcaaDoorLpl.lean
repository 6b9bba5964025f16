/-
  PolicyLines, walked: it returns true, whatever the texts. Over this seat's translation, where the variables hold what their texts lay.
-/
import Derived.Test.YtjmeflfdhkclcaaDoorAwp
import Derived.Test.YtjmeflfdhkclcaaDoorJon
import Derived.Test.YtjmeflfdhkclcaaDoorRsm
namespace Go.Proofs.YtjmeflfdhkclcaaDoor
open Go.RowKit Go.Shelf

def PNo (w : World) (e : Ending) (w' : World) : Prop := ∃ k : Nat, e = .returned (.tuple #[.agg #[.bool false, .bool false, .slice none 0 0, .slice none 0 0], .int .i64 ((k : Int) + 1), .int .i64 7]) ∧ k ≤ 5000 ∧ Below w.heap.size w w'
def PYes (ls : List (List UInt8)) (w : World) (e : Ending) (w' : World) : Prop := ∃ sv tv ra sa, e = .returned (.tuple #[polV (anyP1 ls) (anyP2 ls) sv tv, .int .i64 0, .int .i64 0]) ∧ Rg w' sv ra ∧ Rg w' tv sa ∧ Tidied (rams ls) ra ∧ Tidied (saves ls) sa ∧ Below w.heap.size w w'
theorem parse_no (s : ByteArray) (w : World) (G : Glob w) (hs : s.size ≤ 4096) (h : noBad (linesOf s.data.toList) = false) : Calls Tryd.prog 6 #[.string s] w (PNo w) := by
  refine (parse_in s w G hs).mono ?_
  intro e w' hp
  rcases hp with ⟨k, hk, _, _, rfl, hb⟩ | ⟨hn, _⟩
  · have h1 := linesOf_len s.data.toList
    have h2 : s.data.toList.length = s.size := by rw [Array.length_toList]; rfl
    exact ⟨k, by rw [show ((k + 1 : Nat) : Int) = (k : Int) + 1 by omega], by omega, hb⟩
  · rw [h] at hn; cases hn
theorem noBad_take {ls : List (List UInt8)} {k : Nat} (h : noBad ls = true) (hk : k < ls.length) : isBad (ls.getD k []) = false := by
  have := List.all_eq_true.1 h (ls.getD k []) (mem_getD ls k [] hk)
  simpa using this
theorem parse_yes (s : ByteArray) (w : World) (G : Glob w) (hs : s.size ≤ 4096) (h : noBad (linesOf s.data.toList) = true) : Calls Tryd.prog 6 #[.string s] w (PYes (linesOf s.data.toList) w) := by
  refine (parse_in s w G hs).mono ?_
  intro e w' hp
  rcases hp with ⟨k, hk, _, hbad, _⟩ | ⟨_, sv, tv, ra, sa, h1⟩
  · rw [noBad_take h hk] at hbad; cases hbad
  · exact ⟨sv, tv, ra, sa, h1⟩
theorem tidied_top {n : Int} {l T : List (Int × Int)} (h : Tidied l T) (hl : ∀ r ∈ l, r.2 < n) : areaMay n T = true := by
  have hm := (mayB_iff T 0).1 h.1
  have ht : topB n T = false := by
    cases hc : topB n T
    · rfl
    · obtain ⟨r, hr, hn⟩ := List.any_eq_true.1 hc
      have h2 := rise_mem T hm.1 r hr
      have h3 : inB T r.2 = true := (inB_iff _ _).2 ⟨r, hr, h2.2, Int.le_refl _⟩
      rw [h.2] at h3
      obtain ⟨q, hq, h4, h5⟩ := (inB_iff _ _).1 h3
      have := hl q hq
      have h6 : n ≤ r.2 := by simpa using hn
      omega
  unfold areaMay
  rw [h.1, ht]; rfl
theorem parse_may {ls : List (List UInt8)} {ra sa : List (Int × Int)} (h1 : Tidied (rams ls) ra) (h2 : Tidied (saves ls) sa) : polMay ra sa = true := by
  unfold polMay
  rw [tidied_top h1 (rams_top ls), tidied_top h2 (saves_top ls)]; rfl
theorem tidied_both {a b A B J : List (Int × Int)} (h1 : Tidied a A) (h2 : Tidied b B) (h3 : Tidied (A ++ B) J) : Tidied (a ++ b) J := ⟨h3.1, fun x => by rw [h3.2, inB_append, inB_append, h1.2, h2.2]⟩
theorem lines_two (s t : ByteArray) : linesOf (s ++ ⟨#[10]⟩ ++ t).data.toList = linesOf s.data.toList ++ linesOf t.data.toList := by
  rw [← linesOf_append]
  congr 1
  simp [ByteArray.data_append]
theorem lines_rem (s r t : ByteArray) (h : 10 ∉ r.data.toList) : linesOf (s ++ ⟨#[10, 35]⟩ ++ r ++ ⟨#[10, 10]⟩ ++ t).data.toList = linesOf s.data.toList ++ ((35 :: r.data.toList) :: [] :: linesOf t.data.toList) := by
  have e : (s ++ ⟨#[10, 35]⟩ ++ r ++ ⟨#[10, 10]⟩ ++ t).data.toList = s.data.toList ++ 10 :: ((35 :: r.data.toList) ++ 10 :: ([] ++ 10 :: t.data.toList)) := by simp [ByteArray.data_append]
  rw [e, linesOf_append, linesOf_first (35 :: r.data.toList) _ (by simp [h]), linesOf_first [] _ (by simp)]
theorem cls_rem (l : List UInt8) : cls (35 :: l) = .skip := by unfold cls; rw [if_pos (by simp [isSkip])]
theorem cls_nil : cls [] = .skip := by unfold cls; rw [if_pos (by rfl)]
theorem rem_all (a b : List (List UInt8)) (l : List UInt8) : noBad (a ++ ((35 :: l) :: [] :: b)) = (noBad a && noBad b) ∧ anyP1 (a ++ ((35 :: l) :: [] :: b)) = (anyP1 a || anyP1 b) ∧ anyP2 (a ++ ((35 :: l) :: [] :: b)) = (anyP2 a || anyP2 b) ∧ rams (a ++ ((35 :: l) :: [] :: b)) = rams a ++ rams b ∧ saves (a ++ ((35 :: l) :: [] :: b)) = saves a ++ saves b := by
  refine ⟨?_, ?_, ?_, ?_, ?_⟩
  · simp [noBad, isBad, cls_rem, cls_nil]
  · simp [anyP1, cls_rem, cls_nil]
  · simp [anyP2, cls_rem, cls_nil]
  · simp [rams, ramOf, cls_rem, cls_nil]
  · simp [saves, saveOf, cls_rem, cls_nil]
set_option maxRecDepth 100000 in
set_option maxHeartbeats 2000000 in
theorem lines_long (s t r : ByteArray) (w : World) (G : Glob w) (h : 1000 < s.size ∨ 1000 < t.size ∨ 100 < r.size) :
    Calls Tryd.prog 3 #[.string s, .string t, .string r] w fun e w' => e = .returned (.bool true) ∧ Below w.heap.size w w' := by
  have HA := Lib.hid (pawake_ct w G)
  clear G
  by_cases h1 : 1000 < s.size
  · go_enter Tryd.func3, Tryd.ntmps3
    go_wp2_with fail
    ((with_reducible refine HA.out.mono ?_))
    rintro e w1 ⟨rfl, hB⟩
    go_wp2
    go_ret
    exact ⟨rfl, hB⟩
  · by_cases h2 : 1000 < t.size
    · go_enter Tryd.func3, Tryd.ntmps3
      go_wp2_with fail
      ((with_reducible refine HA.out.mono ?_))
      rintro e w1 ⟨rfl, hB⟩
      go_wp2
      go_ret
      exact ⟨rfl, hB⟩
    · have h3 : 100 < r.size := by omega
      clear h
      go_enter Tryd.func3, Tryd.ntmps3
      go_wp2_with fail
      ((with_reducible refine HA.out.mono ?_))
      rintro e w1 ⟨rfl, hB⟩
      go_wp2
      go_ret
      exact ⟨rfl, hB⟩
def PAny (w : World) (e : Ending) (w' : World) : Prop := ∃ (p q : Bool) (a b : Option Addr) (n c m d : Nat) (x y : Int), e = .returned (.tuple #[.agg #[.bool p, .bool q, .slice a n c, .slice b m d], .int .i64 x, .int .i64 y]) ∧ Below w.heap.size w w'
set_option maxRecDepth 100000 in
set_option maxHeartbeats 2500000 in
theorem lines_short (s t r : ByteArray) (w : World) (G : Glob w) (h1 : s.size ≤ 1000) (h2 : t.size ≤ 1000) (h3 : r.size ≤ 100) :
    Calls Tryd.prog 3 #[.string s, .string t, .string r] w fun e w' => e = .returned (.bool true) ∧ Below w.heap.size w w' := by
  have Gb : Hid (∀ w', Below w.heap.size w w' → Glob w') := fun _ hb => G.below hb
  clear G
  go_enter Tryd.func3, Tryd.ntmps3
  go_wp2
  go_loop [7] (fun i => ∃ k : Nat, k ≤ r.size ∧ i = .int .i64 k ∧ Hid (10 ∉ r.data.toList.take k)) (fun i => r.size - (intOf i).toNat)
  case atStart => exact ⟨0, Nat.zero_le _, rfl, by simp [Hid]⟩
  case round =>
    obtain ⟨k, hk, rfl, hN⟩ := hrel
    by_cases hlt : k < r.size
    · cases hc : (((r[k]'hlt).toNat : Int) == 10)
      · have HN : Hid (10 ∉ r.data.toList.take (k + 1)) := by
          rw [Hid, take_byte r k hlt]
          intro hm
          rcases List.mem_append.1 hm with hm | hm
          · exact hN.out hm
          · have : r[k] = 10 := (List.mem_singleton.1 hm).symm
            rw [this] at hc
            revert hc
            decide
        clear hN
        go_wp2
        go_round
        case rel => exact ⟨k + 1, by omega, by go_num, HN⟩
        case measure => simp [intOf]; omega
      · have HA := Lib.hid (pawake_ct w (Gb.out w (Below.refl _ _)))
        clear hN
        go_wp2_with fail
        ((with_reducible refine HA.out.mono ?_))
        rintro e w1 ⟨rfl, hB⟩
        go_wp2
        go_ret
        exact ⟨rfl, hB⟩
    · have HN : Hid (10 ∉ r.data.toList) := by
        have : r.data.toList.take k = r.data.toList := List.take_of_length_le (by rw [Array.length_toList]; show r.size ≤ k; omega)
        rw [this] at hN; exact hN
      clear hN
      have z1 : (s ++ ⟨#[10]⟩ ++ t).size ≤ 4096 := by simp only [ByteArray.size_append]; show s.size + 1 + t.size ≤ 4096; omega
      have z2 : (s ++ ⟨#[10, 35]⟩ ++ r ++ ⟨#[10, 10]⟩ ++ t).size ≤ 4096 := by simp only [ByteArray.size_append]; show s.size + 2 + r.size + 2 + t.size ≤ 4096; omega
      cases ha : noBad (linesOf s.data.toList)
      · have Hl := Lib.hid (lines_two s t)
        have Hbad : Hid (noBad (linesOf (s ++ ⟨#[10]⟩ ++ t).data.toList) = false) := by rw [Hid, Hl.out, noBad_append, ha]; rfl
        have P1 := Lib.hid (fun wr (hb : Below w.heap.size w wr) => parse_no s wr (Gb.out wr hb) (by omega) ha)
        have P3 := Lib.hid (fun wr (hb : Below w.heap.size w wr) => parse_no (s ++ ⟨#[10]⟩ ++ t) wr (Gb.out wr hb) z1 Hbad.out)
        have P2 : Hid (∀ wr, Below w.heap.size w wr → Calls Tryd.prog 6 #[.string t] wr (PAny wr)) := fun wr hb => by
          cases hbt : noBad (linesOf t.data.toList)
          · refine (parse_no t wr (Gb.out wr hb) (by omega) hbt).mono ?_
            rintro e w' ⟨k, rfl, _, hb'⟩
            exact ⟨_, _, _, _, _, _, _, _, _, _, rfl, hb'⟩
          · refine (parse_yes t wr (Gb.out wr hb) (by omega) hbt).mono ?_
            rintro e w' ⟨sv, tv, ra, sa, rfl, ⟨_, _, rfl, _⟩, ⟨_, _, rfl, _⟩, _, _, hb'⟩
            exact ⟨_, _, _, _, _, _, _, _, _, _, rfl, hb'⟩
        clear ha
        go_wp2_with fail
        ((with_reducible refine (P1.out _ (Below.refl _ _)).mono ?_))
        rintro e w1 ⟨k1, rfl, hk1, hB1⟩
        have HB1 := Lib.hid hB1
        have hz1 := hB1.size
        clear hB1
        go_wp2_with fail
        ((with_reducible refine (P2.out _ (HB1.out.alloc hz1 _)).mono ?_))
        rintro e w2 ⟨p, q, a, b, n, c, m, d, x, y, rfl, hB2⟩
        have hB2' : Below w.heap.size w w2 := (HB1.out.alloc hz1 _).trans (hB2.mono (by simp; omega))
        have HB2 := Lib.hid hB2'
        have hz2 := hB2'.size
        clear hB2 hB2'
        have hno1 : ¬ 9223372036854775807 < s.size + 1 := by omega
        have hno2 : ¬ 9223372036854775807 < s.size + 1 + t.size := by omega
        go_wp2_with fail
        ((with_reducible refine (P3.out _ (HB2.out.alloc hz2 _)).mono ?_))
        rintro e w3 ⟨k3, rfl, hk3, hB3⟩
        have hB3' : Below w.heap.size w w3 := (HB2.out.alloc hz2 _).trans (hB3.mono (by simp; omega))
        have HB3 := Lib.hid hB3'
        have hz3 := hB3'.size
        have HA := Lib.hid (pawake_ct _ (Gb.out _ (HB3.out.alloc hz3 (.cells #[.bool false, .bool false, .slice none 0 0, .slice none 0 0] 26))))
        clear hB3 hB3'
        go_wp2_with fail
        ((with_reducible refine HA.out.mono ?_))
        rintro e w4 ⟨rfl, hB4⟩
        go_wp2
        go_ret
        exact ⟨rfl, (HB3.out.alloc hz3 _).trans (hB4.mono (by simp; omega))⟩
      · cases hbt : noBad (linesOf t.data.toList)
        · have Hl := Lib.hid (lines_two s t)
          have Hbad : Hid (noBad (linesOf (s ++ ⟨#[10]⟩ ++ t).data.toList) = false) := by rw [Hid, Hl.out, noBad_append, hbt, Bool.and_false]
          have P1 := Lib.hid (fun wr (hb : Below w.heap.size w wr) => parse_yes s wr (Gb.out wr hb) (by omega) ha)
          have P2 := Lib.hid (fun wr (hb : Below w.heap.size w wr) => parse_no t wr (Gb.out wr hb) (by omega) hbt)
          have P3 := Lib.hid (fun wr (hb : Below w.heap.size w wr) => parse_no (s ++ ⟨#[10]⟩ ++ t) wr (Gb.out wr hb) z1 Hbad.out)
          clear ha hbt
          go_wp2_with fail
          ((with_reducible refine (P1.out _ (Below.refl _ _)).mono ?_))
          rintro e w1 ⟨sv, tv, ra, sa, rfl, ⟨_, _, rfl, _⟩, ⟨_, _, rfl, _⟩, _, _, hB1⟩
          have HB1 := Lib.hid hB1
          have hz1 := hB1.size
          clear hB1
          unfold polV
          go_wp2_with fail
          ((with_reducible refine (P2.out _ (HB1.out.alloc hz1 _)).mono ?_))
          rintro e w2 ⟨k2, rfl, hk2, hB2⟩
          have hB2' : Below w.heap.size w w2 := (HB1.out.alloc hz1 _).trans (hB2.mono (by simp; omega))
          have HB2 := Lib.hid hB2'
          have hz2 := hB2'.size
          clear hB2 hB2'
          have hno1 : ¬ 9223372036854775807 < s.size + 1 := by omega
          have hno2 : ¬ 9223372036854775807 < s.size + 1 + t.size := by omega
          go_wp2_with fail
          ((with_reducible refine (P3.out _ (HB2.out.alloc hz2 _)).mono ?_))
          rintro e w3 ⟨k3, rfl, hk3, hB3⟩
          have hB3' : Below w.heap.size w w3 := (HB2.out.alloc hz2 _).trans (hB3.mono (by simp; omega))
          have HB3 := Lib.hid hB3'
          have hz3 := hB3'.size
          have HA := Lib.hid (pawake_ct _ (Gb.out _ (HB3.out.alloc hz3 (.cells #[.bool false, .bool false, .slice none 0 0, .slice none 0 0] 26))))
          clear hB3 hB3'
          go_wp2_with fail
          ((with_reducible refine HA.out.mono ?_))
          rintro e w4 ⟨rfl, hB4⟩
          go_wp2
          go_ret
          exact ⟨rfl, (HB3.out.alloc hz3 _).trans (hB4.mono (by simp; omega))⟩
        · have Hl := Lib.hid (lines_rem s r t HN.out)
          obtain ⟨R1, R2, R3, R4, R5⟩ := rem_all (linesOf s.data.toList) (linesOf t.data.toList) r.data.toList
          rw [← Hl.out] at R1 R2 R3 R4 R5
          have P1 := Lib.hid (fun wr (hb : Below w.heap.size w wr) => parse_yes s wr (Gb.out wr hb) (by omega) ha)
          have P2 := Lib.hid (fun wr (hb : Below w.heap.size w wr) => parse_yes t wr (Gb.out wr hb) (by omega) hbt)
          have P3 := Lib.hid (fun wr (hb : Below w.heap.size w wr) => parse_yes (s ++ ⟨#[10, 35]⟩ ++ r ++ ⟨#[10, 10]⟩ ++ t) wr (Gb.out wr hb) z2 (by rw [R1, ha, hbt]; rfl))
          have H2 := Lib.hid R2
          have H3 := Lib.hid R3
          have H4 := Lib.hid R4
          have H5 := Lib.hid R5
          clear ha hbt R1 R2 R3 R4 R5 z1
          go_wp2_with fail
          ((with_reducible refine (P1.out _ (Below.refl _ _)).mono ?_))
          rintro e w1 ⟨sv, tv, ra, sa, rfl, hr1, hs1, ht1, hu1, hB1⟩
          have HB1 := Lib.hid hB1
          have hz1 := hB1.size
          have Hr1 : Hid (∀ wr, Below w1.heap.size w1 wr → Rg wr sv ra) := fun wr h => hr1.below h
          have Hs1 : Hid (∀ wr, Below w1.heap.size w1 wr → Rg wr tv sa) := fun wr h => hs1.below h
          have Ht1 := Lib.hid ht1
          have Hu1 := Lib.hid hu1
          obtain ⟨a1, c1, rfl, _⟩ := hr1
          obtain ⟨a2, c2, rfl, _⟩ := hs1
          obtain ⟨n1, hn1⟩ : ∃ n, ra.length = n := ⟨_, rfl⟩
          obtain ⟨n2, hn2⟩ : ∃ n, sa.length = n := ⟨_, rfl⟩
          rw [hn1] at Hr1 ⊢
          rw [hn2] at Hs1 ⊢
          obtain ⟨p1, hp1⟩ : ∃ p, anyP1 (linesOf s.data.toList) = p := ⟨_, rfl⟩
          obtain ⟨q1, hq1⟩ : ∃ p, anyP2 (linesOf s.data.toList) = p := ⟨_, rfl⟩
          rw [hp1, hq1]
          have Hp1 := Lib.hid hp1
          have Hq1 := Lib.hid hq1
          clear hB1 ht1 hu1 hn1 hn2 hp1 hq1
          unfold polV
          go_wp2_with fail
          ((with_reducible refine (P2.out _ (HB1.out.alloc hz1 _)).mono ?_))
          rintro e w2 ⟨sv, tv, rb, sb, rfl, hr2, hs2, ht2, hu2, hB2⟩
          have hb12 : Below w1.heap.size w1 w2 := (by repeat' (first | exact Below.refl _ _ | (refine Below.setCell ?_ (by first | (simp; done) | (simp; omega) | omega) _) | (refine Below.drew ?_) | (refine Below.drewN ?_ _) | (refine Below.alloc ?_ (by first | (simp; done) | (simp; omega) | omega) _) | (refine Below.trans ?_ (Below.mono hB2 (by first | (simp; done) | (simp; omega) | omega)))))
          have Hm1 := Lib.hid ((hB2.block w1.heap.size (by simp)).trans (World.alloc_heap_new w1 _))
          have HB12 := Lib.hid hb12
          have hB2' : Below w.heap.size w w2 := (HB1.out.alloc hz1 _).trans (hB2.mono (by simp; omega))
          have HB2 := Lib.hid hB2'
          have hz2 := hB2'.size
          have hz12 : w1.heap.size < w2.heap.size := by have := hB2.size; simp at this; omega
          have Hr2 : Hid (∀ wr, Below w2.heap.size w2 wr → Rg wr sv rb) := fun wr h => hr2.below h
          have Hs2 : Hid (∀ wr, Below w2.heap.size w2 wr → Rg wr tv sb) := fun wr h => hs2.below h
          have Ht2 := Lib.hid ht2
          have Hu2 := Lib.hid hu2
          obtain ⟨a3, c3, rfl, _⟩ := hr2
          obtain ⟨a4, c4, rfl, _⟩ := hs2
          obtain ⟨n3, hn3⟩ : ∃ n, rb.length = n := ⟨_, rfl⟩
          obtain ⟨n4, hn4⟩ : ∃ n, sb.length = n := ⟨_, rfl⟩
          rw [hn3] at Hr2 ⊢
          rw [hn4] at Hs2 ⊢
          obtain ⟨p2, hp2⟩ : ∃ p, anyP1 (linesOf t.data.toList) = p := ⟨_, rfl⟩
          obtain ⟨q2, hq2⟩ : ∃ p, anyP2 (linesOf t.data.toList) = p := ⟨_, rfl⟩
          rw [hp2, hq2]
          have Hp2 := Lib.hid hp2
          have Hq2 := Lib.hid hq2
          clear hB2 hB2' ht2 hu2 hn3 hn4 hp2 hq2 hb12
          have hno1 : ¬ 9223372036854775807 < s.size + 2 := by omega
          have hno2 : ¬ 9223372036854775807 < s.size + 2 + r.size := by omega
          have hno3 : ¬ 9223372036854775807 < s.size + 2 + r.size + 2 := by omega
          have hno4 : ¬ 9223372036854775807 < s.size + 2 + r.size + 2 + t.size := by omega
          unfold polV
          go_wp2_with fail
          ((with_reducible refine (P3.out _ (HB2.out.alloc hz2 _)).mono ?_))
          rintro e w3 ⟨sv, tv, rx, sx, rfl, hr3, hs3, ht3, hu3, hB3⟩
          rw [H2.out, H3.out, Hp1.out, Hq1.out, Hp2.out, Hq2.out]
          have hm1 := (hB3.block w1.heap.size (by simp; omega)).trans ((Lib.alloc_old w2 _ _ hz12).trans Hm1.out)
          have hm2 := (hB3.block w2.heap.size (by simp)).trans (World.alloc_heap_new w2 _)
          have hb23 : Below w2.heap.size w2 w3 := (by repeat' (first | exact Below.refl _ _ | (refine Below.setCell ?_ (by first | (simp; done) | (simp; omega) | omega) _) | (refine Below.drew ?_) | (refine Below.drewN ?_ _) | (refine Below.alloc ?_ (by first | (simp; done) | (simp; omega) | omega) _) | (refine Below.trans ?_ (Below.mono hB3 (by first | (simp; done) | (simp; omega) | omega)))))
          have hB3' : Below w.heap.size w w3 := HB2.out.next hb23
          have hz23 : w2.heap.size < w3.heap.size := by have := hB3.size; simp at this; omega
          have hb13 : Below w1.heap.size w1 w3 := HB12.out.next hb23
          have hrx : Hid (∀ wr, Below w3.heap.size w3 wr → Rg wr sv rx) := fun wr h => hr3.below h
          have hsx : Hid (∀ wr, Below w3.heap.size w3 wr → Rg wr tv sx) := fun wr h => hs3.below h
          rw [H4.out] at ht3
          rw [H5.out] at hu3
          have Ht3 := Lib.hid ht3
          have Hu3 := Lib.hid hu3
          have HB3 := Lib.hid hB3'
          have hz3 := hB3'.size
          obtain ⟨a5, c5, rfl, _⟩ := hr3
          obtain ⟨a6, c6, rfl, _⟩ := hs3
          obtain ⟨n5, hn5⟩ : ∃ n, rx.length = n := ⟨_, rfl⟩
          obtain ⟨n6, hn6⟩ : ∃ n, sx.length = n := ⟨_, rfl⟩
          rw [hn5] at hrx ⊢
          rw [hn6] at hsx ⊢
          obtain ⟨P, hP⟩ : ∃ P, (p1 || p2) = P := ⟨_, rfl⟩
          obtain ⟨Q, hQ⟩ : ∃ Q, (q1 || q2) = Q := ⟨_, rfl⟩
          have hal : ∀ o, Below w3.heap.size w3 (w3.alloc o) := fun o => (by repeat' (first | exact Below.refl _ _ | (refine Below.setCell ?_ (by first | (simp; done) | (simp; omega) | omega) _) | (refine Below.drew ?_) | (refine Below.drewN ?_ _) | (refine Below.alloc ?_ (by first | (simp; done) | (simp; omega) | omega) _)))
          have hJ := fun o => join_yes p1 q1 p2 q2 _ _ _ _ ra sa rb sb (w3.alloc o) (Hr1.out _ (hb13.next (hal o))) (Hs1.out _ (hb13.next (hal o))) (Hr2.out _ (hb23.next (hal o))) (Hs2.out _ (hb23.next (hal o))) (parse_may Ht1.out Hu1.out) (parse_may Ht2.out Hu2.out)
          rw [hP, hQ] at hJ ⊢
          have HJ := Lib.hid hJ
          have u0 : w3.cell? ⟨w1.heap.size, 0, none⟩ = some (.bool p1) := by rw [Lib.cell_of_heap hm1]; rfl
          have u1 : w3.cell? ⟨w1.heap.size, 1, none⟩ = some (.bool q1) := by rw [Lib.cell_of_heap hm1]; rfl
          have u2 : w3.cell? ⟨w1.heap.size, 2, none⟩ = some (.slice a1 n1 c1) := by rw [Lib.cell_of_heap hm1]; rfl
          have u3 : w3.cell? ⟨w1.heap.size, 3, none⟩ = some (.slice a2 n2 c2) := by rw [Lib.cell_of_heap hm1]; rfl
          have x0 : w3.cell? ⟨w2.heap.size, 0, none⟩ = some (.bool p2) := by rw [Lib.cell_of_heap hm2]; rfl
          have x1 : w3.cell? ⟨w2.heap.size, 1, none⟩ = some (.bool q2) := by rw [Lib.cell_of_heap hm2]; rfl
          have x2 : w3.cell? ⟨w2.heap.size, 2, none⟩ = some (.slice a3 n3 c3) := by rw [Lib.cell_of_heap hm2]; rfl
          have x3 : w3.cell? ⟨w2.heap.size, 3, none⟩ = some (.slice a4 n4 c4) := by rw [Lib.cell_of_heap hm2]; rfl
          have hz13 : w1.heap.size < w3.heap.size := by omega
          clear hm1 hm2 hB3 hB3' ht3 hu3 hn5 hn6 hP hQ hJ hb23 hb13 hal hno1 hno2 hno3 hno4
          unfold polV at HJ ⊢
          go_wp2_with fail
          ((with_reducible refine (HJ.out _).mono ?_))
          rintro e w4 ⟨sv, tv, J, K, rfl, hj, hk2, htJ, htK, hB4⟩
          obtain rfl : rx = J := Ht3.out.uniq (tidied_both Ht1.out Ht2.out htJ)
          obtain rfl : sx = K := Hu3.out.uniq (tidied_both Hu1.out Hu2.out htK)
          have hm3 := (hB4.block w3.heap.size (by simp)).trans (World.alloc_heap_new w3 _)
          have hb34 : Below w3.heap.size w3 w4 := (by repeat' (first | exact Below.refl _ _ | (refine Below.setCell ?_ (by first | (simp; done) | (simp; omega) | omega) _) | (refine Below.drew ?_) | (refine Below.drewN ?_ _) | (refine Below.alloc ?_ (by first | (simp; done) | (simp; omega) | omega) _) | (refine Below.trans ?_ (Below.mono hB4 (by first | (simp; done) | (simp; omega) | omega)))))
          have hz34 : w3.heap.size < w4.heap.size := by have := hB4.size; simp at this; omega
          have hal : ∀ o, Below w4.heap.size w4 (w4.alloc o) := fun o => (by repeat' (first | exact Below.refl _ _ | (refine Below.setCell ?_ (by first | (simp; done) | (simp; omega) | omega) _) | (refine Below.drew ?_) | (refine Below.drewN ?_ _) | (refine Below.alloc ?_ (by first | (simp; done) | (simp; omega) | omega) _)))
          have hS := fun o => rpsame_ct P Q P Q _ _ sv tv rx sx rx sx (w4.alloc o) (hrx.out _ (hb34.next (hal o))) (hsx.out _ (hb34.next (hal o))) (hj.below (hal o)) (hk2.below (hal o))
          rw [show ((P == P) && ((Q == Q) && (eqL rx rx && eqL sx sx))) = true by rw [eqL_self, eqL_self]; cases P <;> cases Q <;> rfl] at hS
          have HB4 := Lib.hid (HB3.out.next hb34)
          obtain ⟨a7, c7, rfl, _⟩ := hj
          obtain ⟨a8, c8, rfl, _⟩ := hk2
          obtain ⟨n7, hn7⟩ : ∃ n, rx.length = n := ⟨_, rfl⟩
          obtain ⟨n8, hn8⟩ : ∃ n, sx.length = n := ⟨_, rfl⟩
          rw [hn7, hn8] at hS
          rw [hn7, hn8]
          have HS := Lib.hid hS
          have y0 : w4.cell? ⟨w3.heap.size, 0, none⟩ = some (.bool P) := by rw [Lib.cell_of_heap hm3]; rfl
          have y1 : w4.cell? ⟨w3.heap.size, 1, none⟩ = some (.bool Q) := by rw [Lib.cell_of_heap hm3]; rfl
          have y2 : w4.cell? ⟨w3.heap.size, 2, none⟩ = some (.slice a5 n5 c5) := by rw [Lib.cell_of_heap hm3]; rfl
          have y3 : w4.cell? ⟨w3.heap.size, 3, none⟩ = some (.slice a6 n6 c6) := by rw [Lib.cell_of_heap hm3]; rfl
          have hz4 := HB4.out.size
          clear hm3 hB4 hb34 hal hS hn7 hn8 u0 u1 u2 u3 x0 x1 x2 x3 htJ htK
          unfold polV at HS ⊢
          go_wp2_with fail
          ((with_reducible refine (HS.out _).mono ?_))
          rintro e w5 ⟨rfl, hB5⟩
          have hB5' : Below w.heap.size w w5 := (HB4.out.alloc hz4 _).trans (hB5.mono (by simp; omega))
          have HA := Lib.hid (pawake_ct _ (Gb.out _ hB5'))
          have HB5 := Lib.hid hB5'
          clear hB5 hB5'
          go_wp2_with fail
          ((with_reducible refine HA.out.mono ?_))
          rintro e w6 ⟨rfl, hB6⟩
          go_wp2
          go_ret
          exact ⟨rfl, HB5.out.next hB6⟩
end Go.Proofs.YtjmeflfdhkclcaaDoor
