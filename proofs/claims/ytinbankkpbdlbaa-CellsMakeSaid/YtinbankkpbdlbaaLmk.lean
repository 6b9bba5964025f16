/-
  The walk of layer 2's law on cells that are made, over this seat's translation: it returns true, and writes nothing that was there.
-/
import Derived.Test.YtinbankkpbdlbaaLse
import Derived.Test.YtinbankkpbdlbaaRmk
namespace Go.Proofs.Ytinbankkpbdlbaa
open Go.RowKit

theorem slice_len {w : World} {v : Value} {l : List (Int × Bool)} {k : Nat} (h : Rd w v l) (hk : l.length = k) : ∃ a cap, v = .slice a k cap := by
  obtain ⟨a, cap, rfl⟩ := h.slice
  exact ⟨a, cap, by rw [hk]⟩
theorem byteAt_byte (s : ByteArray) (j : Nat) : 0 ≤ byteAt s j ∧ byteAt s j < 256 := by
  unfold byteAt
  split
  · have := UInt8.toNat_lt (s[j])
    omega
  · omega
theorem mkL_bytes (k : Nat) (t : ByteArray) (m : List (Int × Int)) : Bytes8 (mkL k t m) := fun j hj => by
  have hj' : j < k := by simpa [mkL, mkF] using hj
  unfold mkL
  rw [mkF_nth k _ j hj']
  exact byteAt_byte t j
theorem byte_here (M : List (Int × Bool)) (h8 : Bytes8 M) (j : Nat) (h : j < (textOf M).size) : (((textOf M)[j]'h).toNat : Int) = (nth M j).1 := by
  rw [← textOf_at M h8 j (by rw [← textOf_size]; exact h)]
  unfold byteAt
  rw [dif_pos h]
theorem lowL_at (M : List (Int × Bool)) (j : Nat) : (nth (lowL M) j).1 = (nth M j).1 ∧ (nth (lowL M) j).2 = false := by
  refine ⟨?_, lowL_none M j⟩
  unfold nth lowL
  rw [List.getD_eq_getElem?_getD, List.getD_eq_getElem?_getD, List.getElem?_map]
  cases M[j]? <;> rfl
theorem rd_cells {w : World} {a : Option Addr} {len cap : Nat} {M : List (Int × Bool)} (h : Rd w (.slice a len cap) M) (j : Nat) (hj : j < M.length) :
    ∃ p : Nat × Nat, a = some ⟨p.1, p.2, none⟩ ∧ p.1 < w.heap.size ∧ (w.cell? ⟨p.1, p.2 + j * 2, none⟩ = some (.int .u8 (nth M j).1) ∧ w.cell? ⟨p.1, p.2 + j * 2 + 1, none⟩ = some (.bool (nth M j).2)) ∧ cap ≤ maxLen := by
  obtain ⟨a', cap', e, h1, h2, h3⟩ := h
  injection e with e1 e2 e3
  subst e1 e3
  rcases h3 with rfl | ⟨b, off, rfl, hb, hc⟩
  · simp at hj
  · exact ⟨(b, off), rfl, hb, hc j hj, h2⟩
set_option maxRecDepth 100000 in
set_option maxHeartbeats 4000000 in
theorem make_walk (n : Int) (s : ByteArray) (sv : Value) (l : List (Int × Int)) (w : World) (hr : Rg w sv l) :
    Calls Try.prog 4 #[.int .i64 n, .string s, sv] w fun e w' => e = .returned (.bool true) ∧ Below w.heap.size w w' := by
  have Hr := Lib.hid hr
  clear hr
  go_enter Try.func4, Try.ntmps4
  go_wp2_with fail
  refine (fewr_ct sv l _ Hr.out).mono ?_
  rintro e w1 ⟨x, rfl, hx, rfl⟩
  have lm : (l.take 20).length ≤ 20 := by rw [List.length_take]; omega
  clear Hr
  generalize l.take 20 = m at *
  by_cases h300 : 300 < s.size
  · have hle : (300 : Int) ≤ s.size := by omega
    obtain ⟨t, ht⟩ : ∃ t, t = s.extract 0 300 := ⟨_, rfl⟩
    have hcut : ∀ W, (Instr.slice 9 (.string s) none (some (.int .i64 300)) none).run Try.prog W = .ok (.string t) W := fun W => by
      rw [run_slice_string_to_if W 9 s .i64 300 Try.underlying9, if_pos ⟨by omega, hle⟩, ht]
      rfl
    have ht300 : t.size ≤ 300 := by rw [ht]; simp; omega
    clear ht
    have Hx := Lib.hid hx
    clear hx
    by_cases hbad : n < 0 ∨ 65536 < n ∨ n < (t.size : Int) ∨ mayB 0 m = false
    · have hmk := make_no n t x m _ Hx.out hbad
      have Hbad := Lib.hid hbad
      clear hbad
      go_wp2_with fail
      refine hmk.mono ?_
      rintro e w2 ⟨rfl, B2⟩
      replace Hx := Lib.hid (Hx.out.below B2)
      clear hmk
      have fin : ∀ W, Below w.heap.size w W → Calls Try.prog 16 #[] W fun e w' => e = .returned (.bool true) ∧ Below w.heap.size w w' := fun W hB => (awake_ct W).mono fun e w' h => ⟨h.1, hB.next h.2⟩
      have Hfin := Lib.hid fin
      clear fin
      by_cases h0 : n < 0
      · clear Hbad
        go_wp2_with fail
        refine (Hfin.out _ B2).mono ?_
        rintro e w5 ⟨rfl, B5⟩
        go_wp2
        go_ret
        exact ⟨rfl, B5⟩
      · have hn0 : decide (n < 0) = false := decide_eq_false h0
        by_cases h1 : 65536 < n
        · clear Hbad
          go_wp2_with fail
          refine (Hfin.out _ B2).mono ?_
          rintro e w5 ⟨rfl, B5⟩
          go_wp2
          go_ret
          exact ⟨rfl, B5⟩
        · have hn1 : decide (65536 < n) = false := decide_eq_false h1
          obtain ⟨k, rfl⟩ := Int.eq_ofNat_of_zero_le (by omega : 0 ≤ n)
          by_cases h2 : k < t.size
          · clear Hbad
            go_wp2_with fail
            refine (Hfin.out _ B2).mono ?_
            rintro e w5 ⟨rfl, B5⟩
            go_wp2
            go_ret
            exact ⟨rfl, B5⟩
          · have hn2 : decide (k < t.size) = false := decide_eq_false h2
            have h3 : mayB 0 m = false := by
              rcases Hbad.out with h | h | h | h
              · omega
              · omega
              · omega
              · exact h
            have hmy := rmay_ct x m w2 Hx.out
            rw [h3] at hmy
            clear Hbad h3
            go_wp2_with fail
            refine hmy.mono ?_
            rintro e w3 ⟨rfl, B3⟩
            replace B2 := B2.next B3
            clear hmy
            go_wp2_with fail
            refine (Hfin.out _ B2).mono ?_
            rintro e w5 ⟨rfl, B5⟩
            go_wp2
            go_ret
            exact ⟨rfl, B5⟩
    · obtain ⟨k, rfl⟩ := Int.eq_ofNat_of_zero_le (by omega : 0 ≤ n)
      have hk : k ≤ 65536 := by omega
      have htk : t.size ≤ k := by omega
      have hmay : mayB 0 m = true := by
        cases h : mayB 0 m
        · exact absurd (.inr (.inr (.inr h))) hbad
        · rfl
      have hn0 : decide ((k : Int) < 0) = false := decide_eq_false (by omega)
      have hn1 : decide (65536 < (k : Int)) = false := decide_eq_false (by omega)
      have hn2 : decide (k < t.size) = false := decide_eq_false (by omega)
      clear hbad
      have hmk := make_yes k t x m _ Hx.out hk htk hmay
      unfold MakeYes at hmk
      go_wp2_with fail
      refine hmk.mono ?_
      rintro e w2 ⟨y, rfl, hy, hB⟩
      have hMl : (mkL k t m).length = k := by simp [mkL, mkF]
      have hM8 : Bytes8 (mkL k t m) := mkL_bytes k t m
      obtain ⟨ya, ycap, rfl⟩ := slice_len hy hMl
      have Hy := Lib.hid hy
      replace Hx := Lib.hid (Hx.out.below hB)
      have hmy := rmay_ct x m w2 Hx.out
      rw [hmay] at hmy
      clear hy hmk
      go_wp2_with fail
      refine hmy.mono ?_
      rintro e w3 ⟨rfl, B3⟩
      replace Hx := Lib.hid (Hx.out.below B3)
      replace Hy := Lib.hid (Hy.out.below B3)
      replace hB := hB.next B3
      clear hmy B3
      have hrm := rmake_ct k t x m _ Hx.out hk
      unfold RmakeP at hrm
      go_wp2_with fail
      refine hrm.mono ?_
      rintro e w4 ⟨z, rfl, hz, B4⟩
      obtain ⟨za, zcap, rfl⟩ := slice_len hz hMl
      have Hz := Lib.hid hz
      replace Hy := Lib.hid (Hy.out.below B4)
      replace hB := hB.next B4
      clear hz hrm B4 Hx hmay
      generalize mkL k t m = M at *
      have hsm := rsame_ct _ _ M M _ Hy.out Hz.out
      rw [eqL_self] at hsm
      go_wp2_with fail
      refine hsm.mono ?_
      rintro e w5 ⟨rfl, B5⟩
      replace Hy := Lib.hid (Hy.out.below B5)
      replace Hz := Lib.hid (Hz.out.below B5)
      replace hB := hB.next B5
      clear hsm B5
      go_wp2_with fail
      refine (csecrets_ct _ M _ Hy.out (by omega)).mono ?_
      rintro e w6 ⟨v1, T1, rfl, hv1, hM1, B6⟩
      obtain ⟨va, vcap, rfl⟩ := hv1.slice
      have Hv1 := Lib.hid hv1
      have HM1 := Lib.hid hM1
      replace Hy := Lib.hid (Hy.out.below B6)
      replace Hz := Lib.hid (Hz.out.below B6)
      replace hB := hB.next B6
      clear B6 hv1 hM1
      go_wp2_with fail
      refine (rsecrets_ct _ M _ Hz.out (by omega)).mono ?_
      rintro e w7 ⟨v2, T2, rfl, hv2, hM2, B7⟩
      obtain ⟨va2, vcap2, rfl⟩ := hv2.slice
      have e1 : T2 = T1 := hM2.uniq HM1.out
      subst e1
      have Hv2 := Lib.hid hv2
      replace Hv1 := Lib.hid (Hv1.out.below B7)
      replace Hy := Lib.hid (Hy.out.below B7)
      replace Hz := Lib.hid (Hz.out.below B7)
      replace hB := hB.next B7
      clear B7 hv2 hM2 HM1
      have hsr := sameR_ct _ _ T2 T2 _ Hv1.out Hv2.out
      rw [eqL_self] at hsr
      go_wp2_with fail
      refine hsr.mono ?_
      rintro e w8 ⟨rfl, B8⟩
      replace Hy := Lib.hid (Hy.out.below B8)
      replace Hz := Lib.hid (Hz.out.below B8)
      replace hB := hB.next B8
      clear B8 hsr Hv1 Hv2
      go_wp2_with fail
      refine (values_bytes_ct _ M _ Hy.out (by omega)).mono ?_
      rintro e w9 ⟨rfl, B9⟩
      replace Hy := Lib.hid (Hy.out.below B9)
      replace Hz := Lib.hid (Hz.out.below B9)
      replace hB := hB.next B9
      clear B9
      go_wp2_with fail
      refine (erase_bytes_ct _ M _ Hy.out (by omega)).mono ?_
      rintro e w10 ⟨u, rfl, hu, B10⟩
      obtain ⟨ua, ucap, rfl⟩ := slice_len hu (show (lowL M).length = k by simp [lowL, hMl])
      have Hu := Lib.hid hu
      replace Hz := Lib.hid (Hz.out.below B10)
      replace hB := hB.next B10
      have hts : (textOf M).size = k := by rw [textOf_size, hMl]
      have Hat := Lib.hid (fun j (h : j < (textOf M).size) => byte_here M hM8 j h)
      clear B10 Hy hu hM8
      generalize textOf M = tx at *
      subst hts
      go_wp2
      go_loopw [12] (fun i wr => ∃ (j : Nat), j ≤ tx.size ∧ i = .int .i64 j ∧ Below w10.heap.size w10 wr) (fun i _ => tx.size - (intOf i).toNat)
      case atStart => exact ⟨0, Nat.zero_le _, rfl, Below.refl _ _⟩
      case round =>
        obtain ⟨j, hj, rfl, hBr⟩ := hrel
        by_cases hlt : j < tx.size
        · obtain ⟨q1, hq1, q2, q3, hq4⟩ := rd_cells Hz.out j (by omega)
          obtain ⟨r1, hr1, r2, r3, hr4⟩ := rd_cells Hu.out j (by simp [lowL]; omega)
          subst hq1 hr1
          have a1 := q3.1
          have b1 := r3.1
          have b2 := r3.2
          rw [← hBr.cell q2, ← Hat.out j hlt] at a1
          rw [← hBr.cell r2, (lowL_at M j).1, ← Hat.out j hlt] at b1
          rw [← hBr.cell r2, (lowL_at M j).2] at b2
          clear q3 r3
          go_wp2_with fail
          go_quiet (fail)
          go_wp2
          go_roundw
          case rel => exact ⟨j + 1, by omega, by go_num, below_drewN hBr _⟩
          case measure => simp [intOf]; omega
        · obtain rfl : j = tx.size := by omega
          have hnm : decide (tx.size < tx.size) = false := decide_eq_false (by omega)
          clear Hz Hu Hat
          go_wp2_with fail
          refine (awake_ct _).mono ?_
          rintro e w11 ⟨rfl, B11⟩
          go_wp2
          go_ret
          exact ⟨rfl, (hB.next hBr).next B11⟩
  · have hno : decide (300 < s.size) = false := decide_eq_false h300
    obtain ⟨t, rfl⟩ : ∃ t, t = s := ⟨_, rfl⟩
    have Hx := Lib.hid hx
    clear hx
    by_cases hbad : n < 0 ∨ 65536 < n ∨ n < (t.size : Int) ∨ mayB 0 m = false
    · have hmk := make_no n t x m _ Hx.out hbad
      have Hbad := Lib.hid hbad
      clear hbad
      go_wp2_with fail
      refine hmk.mono ?_
      rintro e w2 ⟨rfl, B2⟩
      replace Hx := Lib.hid (Hx.out.below B2)
      clear hmk
      have fin : ∀ W, Below w.heap.size w W → Calls Try.prog 16 #[] W fun e w' => e = .returned (.bool true) ∧ Below w.heap.size w w' := fun W hB => (awake_ct W).mono fun e w' h => ⟨h.1, hB.next h.2⟩
      have Hfin := Lib.hid fin
      clear fin
      by_cases h0 : n < 0
      · clear Hbad
        go_wp2_with fail
        refine (Hfin.out _ B2).mono ?_
        rintro e w5 ⟨rfl, B5⟩
        go_wp2
        go_ret
        exact ⟨rfl, B5⟩
      · have hn0 : decide (n < 0) = false := decide_eq_false h0
        by_cases h1 : 65536 < n
        · clear Hbad
          go_wp2_with fail
          refine (Hfin.out _ B2).mono ?_
          rintro e w5 ⟨rfl, B5⟩
          go_wp2
          go_ret
          exact ⟨rfl, B5⟩
        · have hn1 : decide (65536 < n) = false := decide_eq_false h1
          obtain ⟨k, rfl⟩ := Int.eq_ofNat_of_zero_le (by omega : 0 ≤ n)
          by_cases h2 : k < t.size
          · clear Hbad
            go_wp2_with fail
            refine (Hfin.out _ B2).mono ?_
            rintro e w5 ⟨rfl, B5⟩
            go_wp2
            go_ret
            exact ⟨rfl, B5⟩
          · have hn2 : decide (k < t.size) = false := decide_eq_false h2
            have h3 : mayB 0 m = false := by
              rcases Hbad.out with h | h | h | h
              · omega
              · omega
              · omega
              · exact h
            have hmy := rmay_ct x m w2 Hx.out
            rw [h3] at hmy
            clear Hbad h3
            go_wp2_with fail
            refine hmy.mono ?_
            rintro e w3 ⟨rfl, B3⟩
            replace B2 := B2.next B3
            clear hmy
            go_wp2_with fail
            refine (Hfin.out _ B2).mono ?_
            rintro e w5 ⟨rfl, B5⟩
            go_wp2
            go_ret
            exact ⟨rfl, B5⟩
    · obtain ⟨k, rfl⟩ := Int.eq_ofNat_of_zero_le (by omega : 0 ≤ n)
      have hk : k ≤ 65536 := by omega
      have htk : t.size ≤ k := by omega
      have hmay : mayB 0 m = true := by
        cases h : mayB 0 m
        · exact absurd (.inr (.inr (.inr h))) hbad
        · rfl
      have hn0 : decide ((k : Int) < 0) = false := decide_eq_false (by omega)
      have hn1 : decide (65536 < (k : Int)) = false := decide_eq_false (by omega)
      have hn2 : decide (k < t.size) = false := decide_eq_false (by omega)
      clear hbad
      have hmk := make_yes k t x m _ Hx.out hk htk hmay
      unfold MakeYes at hmk
      go_wp2_with fail
      refine hmk.mono ?_
      rintro e w2 ⟨y, rfl, hy, hB⟩
      have hMl : (mkL k t m).length = k := by simp [mkL, mkF]
      have hM8 : Bytes8 (mkL k t m) := mkL_bytes k t m
      obtain ⟨ya, ycap, rfl⟩ := slice_len hy hMl
      have Hy := Lib.hid hy
      replace Hx := Lib.hid (Hx.out.below hB)
      have hmy := rmay_ct x m w2 Hx.out
      rw [hmay] at hmy
      clear hy hmk
      go_wp2_with fail
      refine hmy.mono ?_
      rintro e w3 ⟨rfl, B3⟩
      replace Hx := Lib.hid (Hx.out.below B3)
      replace Hy := Lib.hid (Hy.out.below B3)
      replace hB := hB.next B3
      clear hmy B3
      have hrm := rmake_ct k t x m _ Hx.out hk
      unfold RmakeP at hrm
      go_wp2_with fail
      refine hrm.mono ?_
      rintro e w4 ⟨z, rfl, hz, B4⟩
      obtain ⟨za, zcap, rfl⟩ := slice_len hz hMl
      have Hz := Lib.hid hz
      replace Hy := Lib.hid (Hy.out.below B4)
      replace hB := hB.next B4
      clear hz hrm B4 Hx hmay
      generalize mkL k t m = M at *
      have hsm := rsame_ct _ _ M M _ Hy.out Hz.out
      rw [eqL_self] at hsm
      go_wp2_with fail
      refine hsm.mono ?_
      rintro e w5 ⟨rfl, B5⟩
      replace Hy := Lib.hid (Hy.out.below B5)
      replace Hz := Lib.hid (Hz.out.below B5)
      replace hB := hB.next B5
      clear hsm B5
      go_wp2_with fail
      refine (csecrets_ct _ M _ Hy.out (by omega)).mono ?_
      rintro e w6 ⟨v1, T1, rfl, hv1, hM1, B6⟩
      obtain ⟨va, vcap, rfl⟩ := hv1.slice
      have Hv1 := Lib.hid hv1
      have HM1 := Lib.hid hM1
      replace Hy := Lib.hid (Hy.out.below B6)
      replace Hz := Lib.hid (Hz.out.below B6)
      replace hB := hB.next B6
      clear B6 hv1 hM1
      go_wp2_with fail
      refine (rsecrets_ct _ M _ Hz.out (by omega)).mono ?_
      rintro e w7 ⟨v2, T2, rfl, hv2, hM2, B7⟩
      obtain ⟨va2, vcap2, rfl⟩ := hv2.slice
      have e1 : T2 = T1 := hM2.uniq HM1.out
      subst e1
      have Hv2 := Lib.hid hv2
      replace Hv1 := Lib.hid (Hv1.out.below B7)
      replace Hy := Lib.hid (Hy.out.below B7)
      replace Hz := Lib.hid (Hz.out.below B7)
      replace hB := hB.next B7
      clear B7 hv2 hM2 HM1
      have hsr := sameR_ct _ _ T2 T2 _ Hv1.out Hv2.out
      rw [eqL_self] at hsr
      go_wp2_with fail
      refine hsr.mono ?_
      rintro e w8 ⟨rfl, B8⟩
      replace Hy := Lib.hid (Hy.out.below B8)
      replace Hz := Lib.hid (Hz.out.below B8)
      replace hB := hB.next B8
      clear B8 hsr Hv1 Hv2
      go_wp2_with fail
      refine (values_bytes_ct _ M _ Hy.out (by omega)).mono ?_
      rintro e w9 ⟨rfl, B9⟩
      replace Hy := Lib.hid (Hy.out.below B9)
      replace Hz := Lib.hid (Hz.out.below B9)
      replace hB := hB.next B9
      clear B9
      go_wp2_with fail
      refine (erase_bytes_ct _ M _ Hy.out (by omega)).mono ?_
      rintro e w10 ⟨u, rfl, hu, B10⟩
      obtain ⟨ua, ucap, rfl⟩ := slice_len hu (show (lowL M).length = k by simp [lowL, hMl])
      have Hu := Lib.hid hu
      replace Hz := Lib.hid (Hz.out.below B10)
      replace hB := hB.next B10
      have hts : (textOf M).size = k := by rw [textOf_size, hMl]
      have Hat := Lib.hid (fun j (h : j < (textOf M).size) => byte_here M hM8 j h)
      clear B10 Hy hu hM8
      generalize textOf M = tx at *
      subst hts
      go_wp2
      go_loopw [12] (fun i wr => ∃ (j : Nat), j ≤ tx.size ∧ i = .int .i64 j ∧ Below w10.heap.size w10 wr) (fun i _ => tx.size - (intOf i).toNat)
      case atStart => exact ⟨0, Nat.zero_le _, rfl, Below.refl _ _⟩
      case round =>
        obtain ⟨j, hj, rfl, hBr⟩ := hrel
        by_cases hlt : j < tx.size
        · obtain ⟨q1, hq1, q2, q3, hq4⟩ := rd_cells Hz.out j (by omega)
          obtain ⟨r1, hr1, r2, r3, hr4⟩ := rd_cells Hu.out j (by simp [lowL]; omega)
          subst hq1 hr1
          have a1 := q3.1
          have b1 := r3.1
          have b2 := r3.2
          rw [← hBr.cell q2, ← Hat.out j hlt] at a1
          rw [← hBr.cell r2, (lowL_at M j).1, ← Hat.out j hlt] at b1
          rw [← hBr.cell r2, (lowL_at M j).2] at b2
          clear q3 r3
          go_wp2_with fail
          go_quiet (fail)
          go_wp2
          go_roundw
          case rel => exact ⟨j + 1, by omega, by go_num, below_drewN hBr _⟩
          case measure => simp [intOf]; omega
        · obtain rfl : j = tx.size := by omega
          have hnm : decide (tx.size < tx.size) = false := decide_eq_false (by omega)
          clear Hz Hu Hat
          go_wp2_with fail
          refine (awake_ct _).mono ?_
          rintro e w11 ⟨rfl, B11⟩
          go_wp2
          go_ret
          exact ⟨rfl, (hB.next hBr).next B11⟩
end Go.Proofs.Ytinbankkpbdlbaa
