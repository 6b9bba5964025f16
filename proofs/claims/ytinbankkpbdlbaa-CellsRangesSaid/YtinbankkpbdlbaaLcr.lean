/-
  The walk of layer 2's law on ranges, over this seat's translation: it returns true, and writes nothing that was there.
-/
import Derived.Test.YtinbankkpbdlbaaAwk
import Derived.Test.YtinbankkpbdlbaaRtd
namespace Go.Proofs.Ytinbankkpbdlbaa
open Go.RowKit

set_option maxRecDepth 100000 in
set_option maxHeartbeats 4000000 in
theorem ranges_walk (sv : Value) (l : List (Int × Int)) (z : Int) (w : World) (hr : Rg w sv l) :
    Calls Try.prog 3 #[sv, .int .i64 z] w fun e w' => e = .returned (.bool true) ∧ Below w.heap.size w w' := by
  have Hr := Lib.hid hr
  clear hr
  go_enter Try.func3, Try.ntmps3
  go_wp2_with fail
  refine (fewr_ct sv l _ Hr.out).mono ?_
  rintro e w1 ⟨x, rfl, hx, rfl⟩
  have lm : (l.take 20).length ≤ 20 := by rw [List.length_take]; omega
  clear Hr
  generalize l.take 20 = m at *
  have Hx := Lib.hid hx
  clear hx
  cases hw : m.all wholeB
  · go_wp2_with fail
    refine (tidy_no x m _ Hx.out hw).mono ?_
    rintro e w1 ⟨rfl, hB⟩
    have Hx1 := Lib.hid (Hx.out.below hB)
    have Hw := Lib.hid hw
    clear hw Hx lm
    go_wp2_with fail
    refine (check_ct x m _ Hx1.out).mono ?_
    rintro e w2 ⟨rfl, hB2⟩
    have Hx2 := Lib.hid (Hx1.out.below hB2)
    replace hB := hB.next hB2
    clear Hx1 hB2
    have hm : mayB 0 m = false := by
      rw [Bool.eq_false_iff]; intro c
      have := mayB_wholes m 0 c
      rw [Hw.out] at this
      cases this
    have Hm := Lib.hid hm
    clear hm
    rw [Hm.out, show okE false = 1 from rfl]
    go_wp2_with fail
    refine (rmay_ct x m _ Hx2.out).mono ?_
    rintro e w3 ⟨rfl, hB3⟩
    rw [Hm.out]
    have Hx3 := Lib.hid (Hx2.out.below hB3)
    replace hB := hB.next hB3
    clear Hx2 hB3 Hm
    go_wp2_with fail
    refine (in_ct x z m _ Hx3.out).mono ?_
    rintro e w4 ⟨rfl, hB4⟩
    have Hx4 := Lib.hid (Hx3.out.below hB4)
    replace hB := hB.next hB4
    clear Hx3 hB4
    go_wp2_with fail
    refine (rin_ct x z m _ Hx4.out).mono ?_
    rintro e w5 ⟨rfl, rfl⟩
    generalize inB m z = r at *
    go_wp2_with fail
    refine (wholes_ct x m _ Hx4.out).mono ?_
    rintro e w6 ⟨rfl, hB6⟩
    rw [Hw.out]
    replace hB := hB.next hB6
    clear Hx4 hB6 Hw
    go_wp2_with fail
    refine (awake_ct _).mono ?_
    rintro e w7 ⟨rfl, hB7⟩
    go_wp2
    go_ret
    exact ⟨rfl, hB.next hB7⟩
  · go_wp2_with fail
    refine (tidy_yes x m _ Hx.out hw (by omega)).mono ?_
    rintro e w1 ⟨v, T, rfl, hv, hT, hB⟩
    obtain ⟨a, cap, rfl⟩ := hv.slice
    have HT := Lib.hid hT
    have Hv := Lib.hid hv
    have Hx1 := Lib.hid (Hx.out.below hB)
    have Hw := Lib.hid hw
    have Lm := Lib.hid lm
    clear hw Hx hT hv lm
    go_wp2_with fail
    refine (check_ct x m _ Hx1.out).mono ?_
    rintro e w2 ⟨rfl, hB2⟩
    have Hx2 := Lib.hid (Hx1.out.below hB2)
    have Hv2 := Lib.hid (Hv.out.below hB2)
    replace hB := hB.next hB2
    clear Hx1 hB2 Hv
    have fin : ∀ r : Bool, okE r = if r then 0 else 1 := fun _ => rfl
    clear fin
    obtain ⟨mb, hmb⟩ : ∃ mb, mb = mayB 0 m := ⟨_, rfl⟩
    have Hmb := Lib.hid hmb
    rw [← hmb]
    clear hmb
    cases mb
    all_goals
      first | rw [show okE false = 1 from rfl] | rw [show okE true = 0 from rfl]
      go_wp2_with fail
      refine (rmay_ct x m _ Hx2.out).mono ?_
      rintro e w3 ⟨rfl, hB3⟩
      rw [← Hmb.out]
      have Hx3 := Lib.hid (Hx2.out.below hB3)
      have Hv3 := Lib.hid (Hv2.out.below hB3)
      replace hB := hB.next hB3
      clear Hx2 hB3 Hmb Hv2
      go_wp2_with fail
      refine (in_ct x z m _ Hx3.out).mono ?_
      rintro e w4 ⟨rfl, hB4⟩
      have Hx4 := Lib.hid (Hx3.out.below hB4)
      have Hv4 := Lib.hid (Hv3.out.below hB4)
      replace hB := hB.next hB4
      clear Hx3 hB4 Hv3
      go_wp2_with fail
      refine (rin_ct x z m _ Hx4.out).mono ?_
      rintro e w5 ⟨rfl, rfl⟩
      generalize inB m z = r at *
      go_wp2_with fail
      refine (wholes_ct x m _ Hx4.out).mono ?_
      rintro e w6 ⟨rfl, hB6⟩
      rw [Hw.out]
      have Hx6 := Lib.hid (Hx4.out.below hB6)
      have Hv6 := Lib.hid (Hv4.out.below hB6)
      replace hB := hB.next hB6
      clear Hx4 hB6 Hv4
      go_wp2_with fail
      refine (rtidy_ct x m _ Hx6.out Hw.out (by have := Lm.out; omega)).mono ?_
      rintro e w7 ⟨v2, T2, rfl, hv2, hT2, hB7⟩
      obtain ⟨a2, cap2, rfl⟩ := hv2.slice
      obtain rfl := HT.out.uniq hT2
      have Hv7 := Lib.hid (Hv6.out.below hB7)
      have Hw7 := Lib.hid hv2
      replace hB := hB.next hB7
      clear Hx6 hB7 Hv6 hv2 hT2
      go_wp2_with fail
      refine (sameR_ct _ _ T T _ Hv7.out Hw7.out).mono ?_
      rw [eqL_self]
      rintro e w8 ⟨rfl, hB8⟩
      replace hB := hB.next hB8
      clear Hv7 Hw7 hB8
      go_wp2_with fail
      refine (awake_ct _).mono ?_
      rintro e w9 ⟨rfl, hB9⟩
      go_wp2
      go_ret
      exact ⟨rfl, hB.next hB9⟩
end Go.Proofs.Ytinbankkpbdlbaa
