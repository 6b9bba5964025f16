/-
  The walk of layer 2's law on tidied ranges, over this seat's translation: it returns true, and writes nothing that was there.
-/
import Derived.Test.YtinbankkpbdlbaaAwk
namespace Go.Proofs.Ytinbankkpbdlbaa
open Go.RowKit

theorem rise_len : ∀ (l : List (Int × Int)) {m M : Int}, Rise m l → (∀ r ∈ l, r.2 < M) → (l.length : Int) ≤ max 0 (M - m)
  | [], _, _, _, _ => by simp; omega
  | r :: l, m, M, ⟨h1, h2, h3⟩, h => by
    have := rise_len l h3 fun q hq => h q (List.mem_cons_of_mem _ hq)
    have := h r (List.mem_cons_self ..)
    simp only [List.length_cons]
    omega
theorem may_len {l : List (Int × Int)} (h : mayB 0 l = true) : l.length ≤ 65536 := by
  obtain ⟨h1, h2⟩ := (mayB_iff l 0).1 h
  have := rise_len l h1 fun r hr => (h2 r hr).2
  omega
theorem may_neg {l : List (Int × Int)} (h : mayB 0 l = true) : inB l (-1) = false := by
  rw [Bool.eq_false_iff]
  intro c
  have := rise_low l ((mayB_iff l 0).1 h).1 c
  omega
set_option maxRecDepth 100000 in
set_option maxHeartbeats 4000000 in
theorem tidy_walk (sv : Value) (l : List (Int × Int)) (z : Int) (w : World) (hr : Rg w sv l) (hz0 : 0 ≤ z) (hz1 : z < 65536) :
    Calls Try.prog 7 #[sv, .int .u16 z] w fun e w' => e = .returned (.bool true) ∧ Below w.heap.size w w' := by
  have Hr := Lib.hid hr
  clear hr
  go_enter Try.func7, Try.ntmps7
  go_wp2_with fail
  refine (fewr_ct sv l _ Hr.out).mono ?_
  rintro e w1 ⟨x, rfl, hx, rfl⟩
  have lm : (l.take 20).length ≤ 20 := by rw [List.length_take]; omega
  clear Hr
  generalize l.take 20 = m at *
  have Hx := Lib.hid hx
  cases hw : m.all wholeB
  · go_wp2_with fail
    refine (tidy_no x m _ Hx.out hw).mono ?_
    rintro e w1 ⟨rfl, hB⟩
    clear hw hx Hx lm
    go_wp2_with fail
    refine (awake_ct _).mono ?_
    rintro e w2 ⟨rfl, hB2⟩
    go_wp2
    go_ret
    exact ⟨rfl, hB.next hB2⟩
  · go_wp2_with fail
    refine (tidy_yes x m _ Hx.out hw (by omega)).mono ?_
    rintro e w1 ⟨v, T, rfl, hv, hT, hB⟩
    obtain ⟨a, cap, rfl⟩ := hv.slice
    have HT := Lib.hid hT
    have Hv := Lib.hid hv
    have Hx1 := Lib.hid (Hx.out.below hB)
    clear hw hx Hx hT hv
    go_wp2_with fail
    refine (tidy_yes _ T _ Hv.out (mayB_wholes T 0 HT.out.1) (by have := may_len HT.out.1; omega)).mono ?_
    rintro e w2 ⟨v2, T2, rfl, hv2, hT2, hB2⟩
    obtain rfl := hT2.uniq (Tidied.self HT.out.1)
    obtain ⟨a2, cap2, rfl⟩ := hv2.slice
    have Hv2 := Lib.hid (Hv.out.below hB2)
    have Hw2 := Lib.hid hv2
    have Hx2 := Lib.hid (Hx1.out.below hB2)
    replace hB := hB.next hB2
    clear Hv hT2 hv2 Hx1 hB2
    have hc := check_ct _ T2 w2 Hv2.out
    rw [HT.out.1] at hc
    go_wp2_with fail
    refine hc.mono ?_
    rintro e w3 ⟨rfl, hB3⟩
    rw [show okE true = 0 from rfl]
    have Hv3 := Lib.hid (Hv2.out.below hB3)
    have Hw3 := Lib.hid (Hw2.out.below hB3)
    have Hx3 := Lib.hid (Hx2.out.below hB3)
    replace hB := hB.next hB3
    clear Hv2 Hw2 Hx2 hB3 hc
    go_wp2_with fail
    refine (sameR_ct _ _ T2 T2 _ Hw3.out Hv3.out).mono ?_
    rw [eqL_self]
    rintro e w4 ⟨rfl, hB4⟩
    have Hv4 := Lib.hid (Hv3.out.below hB4)
    have Hx4 := Lib.hid (Hx3.out.below hB4)
    replace hB := hB.next hB4
    clear Hv3 Hw3 Hx3 hB4
    go_wp2_with fail
    refine (check_ct _ m _ Hx4.out).mono ?_
    rintro e w5 ⟨rfl, hB5⟩
    have Hv5 := Lib.hid (Hv4.out.below hB5)
    have Hx5 := Lib.hid (Hx4.out.below hB5)
    replace hB := hB.next hB5
    clear Hv4 Hx4 hB5
    have fin : ∀ (W : World), Rg W (.slice a T2.length cap) T2 → Rg W x m → Below w.heap.size w W → True := fun _ _ _ _ => trivial
    clear fin
    have hin : ∀ y, inB T2 y = inB m y := HT.out.2
    have hneg : inB T2 (-1) = false := may_neg HT.out.1
    cases hm : mayB 0 m
    · rw [show okE false = 1 from rfl]
      have Hin := Lib.hid hin
      have Hneg := Lib.hid hneg
      clear hm hin hneg HT
      go_wp2_with fail
      refine (in_ct _ z T2 _ Hv5.out).mono ?_
      rintro e w6 ⟨rfl, hB6⟩
      rw [Hin.out z]
      have Hv6 := Lib.hid (Hv5.out.below hB6)
      have Hx6 := Lib.hid (Hx5.out.below hB6)
      replace hB := hB.next hB6
      clear Hv5 Hx5 hB6
      go_wp2_with fail
      refine (in_ct _ z m _ Hx6.out).mono ?_
      rintro e w7 ⟨rfl, hB7⟩
      have Hv7 := Lib.hid (Hv6.out.below hB7)
      replace hB := hB.next hB7
      clear Hv6 Hx6 hB7
      generalize inB m z = r at *
      go_wp2_with fail
      refine (in_ct _ (-1) T2 _ Hv7.out).mono ?_
      rintro e w8 ⟨rfl, hB8⟩
      rw [Hneg.out]
      replace hB := hB.next hB8
      clear Hv7 hB8
      go_wp2_with fail
      refine (awake_ct _).mono ?_
      rintro e w9 ⟨rfl, hB9⟩
      go_wp2
      go_ret
      exact ⟨rfl, hB.next hB9⟩
    · rw [show okE true = 0 from rfl]
      obtain rfl : T2 = m := HT.out.uniq (Tidied.self hm)
      have Hneg := Lib.hid hneg
      clear hm hin hneg HT
      go_wp2_with fail
      refine (sameR_ct _ _ T2 T2 _ Hv5.out Hx5.out).mono ?_
      rw [eqL_self]
      rintro e w5b ⟨rfl, hB5⟩
      replace Hv5 := Lib.hid (Hv5.out.below hB5)
      replace Hx5 := Lib.hid (Hx5.out.below hB5)
      replace hB := hB.next hB5
      clear hB5
      go_wp2_with fail
      refine (in_ct _ z T2 _ Hv5.out).mono ?_
      rintro e w6 ⟨rfl, hB6⟩
      have Hv6 := Lib.hid (Hv5.out.below hB6)
      have Hx6 := Lib.hid (Hx5.out.below hB6)
      replace hB := hB.next hB6
      clear Hv5 Hx5 hB6
      go_wp2_with fail
      refine (in_ct _ z T2 _ Hx6.out).mono ?_
      rintro e w7 ⟨rfl, hB7⟩
      have Hv7 := Lib.hid (Hv6.out.below hB7)
      replace hB := hB.next hB7
      clear Hv6 Hx6 hB7
      generalize inB T2 z = r at *
      go_wp2_with fail
      refine (in_ct _ (-1) T2 _ Hv7.out).mono ?_
      rintro e w8 ⟨rfl, hB8⟩
      rw [Hneg.out]
      replace hB := hB.next hB8
      clear Hv7 hB8
      go_wp2_with fail
      refine (awake_ct _).mono ?_
      rintro e w9 ⟨rfl, hB9⟩
      go_wp2
      go_ret
      exact ⟨rfl, hB.next hB9⟩
end Go.Proofs.Ytinbankkpbdlbaa
