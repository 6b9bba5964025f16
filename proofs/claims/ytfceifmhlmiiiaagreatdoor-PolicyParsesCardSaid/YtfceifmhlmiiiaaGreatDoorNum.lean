/-
  What one to four digits to the base sixteen tell: package policy's number, at every text; under it strings.IndexRune in those digits, at every rune. Over this seat's translation; no condition.
-/
import Derived.Test.YtfceifmhlmiiiaaGreatDoorGlb
import Derived.Lib.OthersKept
import Derived.IntWalk
namespace Go.Proofs.YtfceifmhlmiiiaaGreatDoor
open Go.RowKit

def hexS : ByteArray := ⟨#[48, 49, 50, 51, 52, 53, 54, 55, 56, 57, 97, 98, 99, 100, 101, 102]⟩
theorem hexS_low (j : Nat) (h : j < hexS.size) : ((hexS[j]'h).toNat : Int) < 128 := by
  have h' : j < 16 := h
  obtain rfl | rfl | rfl | rfl | rfl | rfl | rfl | rfl | rfl | rfl | rfl | rfl | rfl | rfl | rfl | rfl : j = 0 ∨ j = 1 ∨ j = 2 ∨ j = 3 ∨ j = 4 ∨ j = 5 ∨ j = 6 ∨ j = 7 ∨ j = 8 ∨ j = 9 ∨ j = 10 ∨ j = 11 ∨ j = 12 ∨ j = 13 ∨ j = 14 ∨ j = 15 := by omega
  all_goals (revert h; decide)
theorem hexS_small : ∀ x ∈ hexS.data.toList, x.toNat < 128 := by decide
theorem indexByte_none (c : UInt8) : ∀ (l : List UInt8), (∀ x ∈ l, x ≠ c) → Lib.indexByte l c = -1
  | [], _ => rfl
  | b :: l, h => by
    have h1 : (b == c) = false := by simpa using h b (by simp)
    have h2 := indexByte_none c l (fun x hx => h x (by simp [hx]))
    unfold Lib.indexByte
    rw [h1, h2]
    rfl
theorem indexByte_hex (c : UInt8) : Lib.indexByte hexS.data.toList c = hexV c := by
  have : ∀ n : Fin 256, Lib.indexByte hexS.data.toList (UInt8.ofNat n.val) = hexV (UInt8.ofNat n.val) := by decide +kernel
  have h := this ⟨c.toNat, c.toNat_lt⟩
  simpa using h
theorem valid_eq (r : Int) : Lib.validRune r = Utf8.valid r := by
  unfold Lib.validRune Utf8.valid
  rw [Bool.eq_iff_iff]
  simp
  try omega
set_option maxRecDepth 100000 in
set_option maxHeartbeats 2000000 in
/-- A rune that is no rune, or U+FFFD, or another one beyond ASCII, is not among the digits. -/
theorem irune_bad (r : Int) (w : World) (h1 : 128 ≤ r) (hv : Utf8.valid r = false) :
    Calls Tryz.prog 41 #[.string hexS, .int .i32 r] w fun e w' => e = .returned (.int .i64 (-1)) ∧ Below w.heap.size w w' := by
  have hn : (r == 65533) = false := by
    simp
    rintro rfl; cases hv
  rw [← valid_eq] at hv
  go_enter Tryz.func41, Tryz.ntmps41
  go_wp2_with fail
  refine (Tryz.utf8_ValidRune _ _).mono ?_
  rintro e w' ⟨rfl, rfl⟩
  rw [hv]
  go_wp2
  go_ret
  exact ⟨rfl, Below.refl _ _⟩
theorem ib_none (s : ByteArray) (c : UInt8) (w : World) (h : ∀ x ∈ s.data.toList, x ≠ c) :
    Calls Tryz.prog 58 #[.string s, .int .u8 c.toNat] w fun e w' => e = .returned (.int .i64 (-1)) ∧ w' = w := by
  have := Tryz.strings_IndexByte s c.toNat w
  rw [show ((c.toNat : Int)).toNat.toUInt8 = c by simp, indexByte_none c _ h] at this
  exact this
theorem hexS_part (a b : Nat) (c : UInt8) (hc : 128 ≤ c.toNat) : ∀ x ∈ (hexS.extract a b).data.toList, x ≠ c := fun x hx => by
  rintro rfl
  have : x ∈ hexS.data.toList := by
    rw [ByteArray.data_extract, Array.toList_extract] at hx
    exact List.mem_of_mem_drop (List.mem_of_mem_take hx)
  have := hexS_small x this
  omega
theorem enc_last (r : Int) (hv : Utf8.valid r = true) (h1 : 128 ≤ r) : ∃ (rs : ByteArray) (k : Nat), Utf8.encode r = rs ∧ rs.size = k + 1 ∧ 1 ≤ k ∧ k ≤ 3 ∧ ∀ h : k < rs.size, 128 ≤ (rs[k]'h).toNat := by
  obtain ⟨e1, e2, e3⟩ := encode_facts r hv h1
  refine ⟨Utf8.encode r, (Utf8.encode r).size - 1, rfl, by omega, by omega, by omega, e3⟩
set_option maxRecDepth 100000 in
set_option maxHeartbeats 2000000 in
theorem irune_ok (r : Int) (w : World) (h1 : 128 ≤ r) (hv : Utf8.valid r = true) (hne : ¬ r = 65533) :
    Calls Tryz.prog 41 #[.string hexS, .int .i32 r] w fun e w' => e = .returned (.int .i64 (-1)) ∧ Below w.heap.size w w' := by
  have hn : (r == 65533) = false := by simpa using hne
  obtain ⟨rs, k, hrs, hk, hk1, hk3, he⟩ := enc_last r hv h1
  rw [← valid_eq] at hv
  have hks : k < rs.size := by omega
  have he := he hks
  obtain ⟨c, hc⟩ : ∃ c, rs[k] = c := ⟨_, rfl⟩
  rw [hc] at he
  have hx : k < hexS.size := by show k < 16; omega
  have hcmp : (((hexS[k]'hx).toNat : Int) == (c.toNat : Int)) = false := by
    have := hexS_low k hx
    simp; omega
  have hcmp2 : (((hexS[k]'hx).toNat : Int) != (c.toNat : Int)) = true := by simp [bne, hcmp]
  go_enter Tryz.func41, Tryz.ntmps41
  go_wp2_with fail
  refine (Tryz.utf8_ValidRune _ _).mono ?_
  rintro e w' ⟨rfl, rfl⟩
  rw [hv]
  go_wp2
  go_step3
  go_wp2
  go_loopw [9] (fun i wr => i = .int .i64 k ∧ Below w'.heap.size w' wr) (fun _ _ => 0)
  case atStart => exact ⟨rfl, Below.refl _ _⟩
  case round =>
    obtain ⟨rfl, hB⟩ := hrel
    have hix : ∀ w, (Instr.index 9 (.string rs) (.int .i64 (k : Int))).run Tryz.prog w = .ok (.int .u8 c.toNat) w := fun w => by
      have u9 := Tryz.underlying9
      go_simp
      intro hh
      omega
    have hs0 : 0 ≤ (k : Int) + 1 := by omega
    have hs1 : (k : Int) + 1 ≤ (hexS.size : Int) := by show (k : Int) + 1 ≤ 16; omega
    have hs2 : k + 1 ≤ hexS.size := by show k + 1 ≤ 16; omega
    have hs3 : IntKind.i64.wrap ((k : Int) + 1) = (k : Int) + 1 := IntWalk.i64_in _ (by omega)
    have hs4 : ((k : Int) + 1).toNat = k + 1 := by omega
    go_wp2
    go_step3
    go_wp2
    go_quiet (fail)
    go_wp2
    have hB2 := below_drewN hB nq
    clear hB
    generalize wr.drewN nq = w2 at hB2 ⊢
    go_quiet ((go_at_call 58; exact Calls.quiet_of_same (ib_none _ _ _ (hexS_part _ _ c he))))
    go_wp2
    rw [Exit.noGoto_ret]
    go_wp2
    rw [Exit.noGoto_ret]
    go_ret
    exact ⟨rfl, below_drewN hB2 _⟩
set_option maxRecDepth 100000 in
set_option maxHeartbeats 2000000 in
theorem irune_err (w : World) :
    Calls Tryz.prog 41 #[.string hexS, .int .i32 65533] w fun e w' => e = .returned (.int .i64 (-1)) ∧ Below w.heap.size w w' := by
  go_enter Tryz.func41, Tryz.ntmps41
  go_wp2
  go_loopw [] (fun wr => ∃ pos, pos ≤ hexS.size ∧ wr.heap[w.heap.size]? = some (.stringIter hexS pos) ∧ Below w.heap.size w wr) (fun wr => hexS.size - wr.iterPos w.heap.size)
  case atStart => exact ⟨0, Nat.zero_le _, World.iter_heap w hexS 0, (Below.refl _ w).alloc (Nat.le_refl _) _⟩
  case round =>
    obtain ⟨pos, hps, hit, hB⟩ := hrel
    by_cases hp : pos < hexS.size
    · have hlow := hexS_low pos hp
      have hne : (((hexS[pos]'hp).toNat : Int) == 65533) = false := by simp; omega
      have hnx : ∀ ty, (Instr.next (.pointer (some ⟨w.heap.size, 0, none⟩)) true ty).run Tryz.prog wr = _ := fun ty => Lib.run_next_ascii_at wr w.heap.size hexS pos ty hit hp (by omega)
      have hit2 := Lib.iterAt_heap wr w.heap.size hexS pos (pos + 1) hit
      have hB2 := Lib.below_iterAt hB (k := w.heap.size) (Nat.le_refl _) hexS (pos + 1)
      have Hit := Lib.hid hit
      have Hit2 := Lib.hid hit2
      clear hit hit2
      go_wp2
      go_roundw
      case rel => exact ⟨pos + 1, hp, Hit2.out, hB2⟩
      case measure =>
        simp only [World.iterPos, Hit2.out, Hit.out]
        omega
    · have hnx : ∀ ty, (Instr.next (.pointer (some ⟨w.heap.size, 0, none⟩)) true ty).run Tryz.prog wr = _ := fun ty => Lib.run_next_end_at wr w.heap.size hexS pos ty hit hp
      clear hit
      go_wp2
      go_ret
      exact ⟨rfl, hB⟩
theorem irune_hi (r : Int) (w : World) (h1 : 128 ≤ r) :
    Calls Tryz.prog 41 #[.string hexS, .int .i32 r] w fun e w' => e = .returned (.int .i64 (-1)) ∧ Below w.heap.size w w' := by
  by_cases h : r = 65533
  · subst h; exact irune_err w
  · cases hv : Utf8.valid r
    · exact irune_bad r w h1 hv
    · exact irune_ok r w h1 hv h
theorem irune_low (c : UInt8) (w : World) (h : c.toNat < 128) :
    Calls Tryz.prog 41 #[.string hexS, .int .i32 c.toNat] w fun e w' => e = .returned (.int .i64 (hexV c)) ∧ Below w.heap.size w w' := by
  refine (Tryz.strings_IndexRune_ascii hexS c.toNat w (by omega) (by omega)).mono ?_
  rintro e w' ⟨rfl, rfl⟩
  rw [show ((c.toNat : Int)).toNat.toUInt8 = c by simp, indexByte_hex c]
  exact ⟨rfl, Below.refl _ _⟩
set_option maxRecDepth 100000 in
set_option maxHeartbeats 2000000 in
theorem number_no (s : ByteArray) (w : World) (h : s.size < 1 ∨ 4 < s.size) :
    Calls Tryz.prog 20 #[.string s] w fun e w' => e = .returned (.tuple #[.int .i64 0, .bool false]) ∧ Below w.heap.size w w' := by
  rcases h with h | h
  · have h' : ¬ 1 ≤ s.size := by omega
    go_enter Tryz.func20, Tryz.ntmps20
    go_wp2
    go_ret2
    exact ⟨rfl, Below.refl _ _⟩
  · have h' : 1 ≤ s.size := by omega
    go_enter Tryz.func20, Tryz.ntmps20
    go_wp2
    go_ret2
    exact ⟨rfl, Below.refl _ _⟩
theorem take_byte (s : ByteArray) (k : Nat) (h : k < s.size) : s.data.toList.take (k + 1) = s.data.toList.take k ++ [s[k]] := by
  rw [List.take_succ_eq_append_getElem (by simpa using h)]; rfl
def nbOf (l : List UInt8) : Value := .tuple #[.int .i64 (numOf l), .bool (isNum l)]
theorem nbOf_no (s : ByteArray) (k : Nat) (h : k < s.size) (hx : hexV s[k] < 0) : nbOf s.data.toList = .tuple #[.int .i64 0, .bool false] := by
  have hb : isNum s.data.toList = false := by
    cases hn : isNum s.data.toList
    · rfl
    · simp only [isNum, Bool.and_eq_true] at hn
      have := List.all_eq_true.1 hn.2.2 s[k] (by
        have : s[k] = s.data.toList[k]'(by simpa using h) := rfl
        rw [this]; exact List.getElem_mem _)
      simp at this; omega
  unfold nbOf numOf
  rw [hb]; rfl
theorem nbOf_yes (s : ByteArray) (h1 : 1 ≤ s.size) (h4 : s.size ≤ 4) (hx : isHex s.data.toList = true) : nbOf s.data.toList = .tuple #[.int .i64 (hexN s.data.toList), .bool true] := by
  have hs : s.data.toList.length = s.size := by rw [Array.length_toList]; rfl
  have hb : isNum s.data.toList = true := by
    simp only [isNum, Bool.and_eq_true, decide_eq_true_eq]; exact ⟨by omega, by omega, hx⟩
  unfold nbOf numOf
  rw [hb]; rfl
set_option maxRecDepth 100000 in
set_option maxHeartbeats 4000000 in
theorem number_in (s : ByteArray) (w : World) (h1 : 1 ≤ s.size) (h4 : s.size ≤ 4) :
    Calls Tryz.prog 20 #[.string s] w fun e w' => e = .returned (nbOf s.data.toList) ∧ Below w.heap.size w w' := by
  have hs : s.data.toList.length = s.size := by rw [Array.length_toList]; rfl
  have Hs := Lib.hid hs
  clear hs
  go_enter Tryz.func20, Tryz.ntmps20
  go_wp2
  go_loopw [4] (fun n wr => ∃ pos m, pos ≤ s.size ∧ 0 ≤ m ∧ m ≤ 65535 ∧ n = .int .i64 m ∧ Hid (m = hexN (s.data.toList.take pos)) ∧ Hid (isHex (s.data.toList.take pos) = true) ∧ Hid (wr.heap[w.heap.size]? = some (.stringIter s pos)) ∧ Below w.heap.size w wr) (fun _ wr => s.size - wr.iterPos w.heap.size)
  case atStart => exact ⟨0, 0, Nat.zero_le _, by omega, by omega, rfl, rfl, rfl, World.iter_heap w s 0, (Below.refl _ w).alloc (Nat.le_refl _) _⟩
  case round =>
    obtain ⟨pos, m, hps, hm0, hm1, rfl, hn, hx, hit, hB⟩ := hrel
    by_cases hp : pos < s.size
    · have hsz : w.heap.size < wr.heap.size := (Array.getElem?_eq_some_iff.1 hit.out).1
      have tk := take_byte s pos hp
      have hb := hexV_bd s[pos]
      by_cases hlow : (s[pos]'hp).toNat < 128
      · have hnx : ∀ ty, (Instr.next (.pointer (some ⟨w.heap.size, 0, none⟩)) true ty).run Tryz.prog wr = _ := fun ty => Lib.run_next_ascii_at wr w.heap.size s pos ty hit.out hp hlow
        have hit2 := Lib.hid (Lib.iterAt_heap wr w.heap.size s pos (pos + 1) hit.out)
        have hB2 := Lib.below_iterAt hB (k := w.heap.size) (Nat.le_refl _) s (pos + 1)
        have hsz2 : w.heap.size < (wr.iterAt w.heap.size s (pos + 1)).heap.size := by rw [Lib.iterAt_size]; exact hsz
        have hc := irune_low s[pos] (wr.iterAt w.heap.size s (pos + 1)) hlow
        by_cases hv : hexV s[pos] < 0
        · have Hr := Lib.hid (nbOf_no s pos hp hv)
          clear tk
          obtain ⟨v, hvv⟩ : ∃ v, v = hexV s[pos] := ⟨_, rfl⟩
          rw [← hvv] at hc hv hb
          clear hvv
          go_wp2_with fail
          refine hc.mono ?_
          rintro e w1 ⟨rfl, hB3⟩
          go_wp2
          go_ret2
          exact ⟨by rw [Hr.out]; rfl, hB2.trans (hB3.mono (by omega))⟩
        · have Hx : Hid (isHex (s.data.toList.take (pos + 1)) = true) := by rw [Hid, tk, isHex_snoc, hx.out]; simp; omega
          have Hn : Hid (16 * m + hexV s[pos] = hexN (s.data.toList.take (pos + 1))) := by rw [Hid, tk, hexN_snoc, hn.out]
          have hbd := hexN_bd _ Hx.out (by rw [List.length_take]; omega)
          rw [← Hn.out] at hbd
          clear tk hn hx
          obtain ⟨v, hvv⟩ : ∃ v, v = hexV s[pos] := ⟨_, rfl⟩
          rw [← hvv] at hc hv hb Hn hbd
          clear hvv
          have Hit := hit
          clear hit
          go_wp2_with fail
          refine hc.mono ?_
          rintro e w1 ⟨rfl, hB3⟩
          have hit3 : Hid (w1.heap[w.heap.size]? = some (.stringIter s (pos + 1))) := (hB3.block _ hsz2).trans hit2.out
          go_wp2
          go_roundw
          case rel => exact ⟨pos + 1, 16 * m + v, hp, by omega, by omega, rfl, Hn, Hx, hit3, hB2.trans (hB3.mono (by omega))⟩
          case measure =>
            simp only [World.iterPos, hit3.out, Hit.out]
            omega
      · have hnx : ∀ ty, (Instr.next (.pointer (some ⟨w.heap.size, 0, none⟩)) true ty).run Tryz.prog wr = _ := fun ty => Lib.run_next_any_at wr w.heap.size s pos ty hit.out hp
        have hd := decode_high s pos hp (by omega)
        have hB2 := Lib.below_iterAt hB (k := w.heap.size) (Nat.le_refl _) s (pos + (Utf8.decode s pos).2)
        have hsz2 : w.heap.size < (wr.iterAt w.heap.size s (pos + (Utf8.decode s pos).2)).heap.size := by rw [Lib.iterAt_size]; exact hsz
        have Hr := Lib.hid (nbOf_no s pos hp (by unfold hexV; rw [if_neg (by omega), if_neg (by omega)]; omega))
        clear tk
        go_wp2_with fail
        refine (irune_hi _ _ (by omega)).mono ?_
        rintro e w1 ⟨rfl, hB3⟩
        go_wp2
        go_ret2
        exact ⟨by rw [Hr.out]; rfl, hB2.trans (hB3.mono (by omega))⟩
    · have hnx : ∀ ty, (Instr.next (.pointer (some ⟨w.heap.size, 0, none⟩)) true ty).run Tryz.prog wr = _ := fun ty => Lib.run_next_end_at wr w.heap.size s pos ty hit.out hp
      have ht : s.data.toList.take pos = s.data.toList := List.take_of_length_le (by rw [Hs.out]; omega)
      rw [ht] at hn hx
      have Hr := Lib.hid (nbOf_yes s h1 h4 hx.out)
      clear ht
      go_wp2
      go_ret2
      exact ⟨by rw [Hr.out, hn.out]; rfl, hB⟩
theorem number_ct (s : ByteArray) (w : World) :
    Calls Tryz.prog 20 #[.string s] w fun e w' => e = .returned (nbOf s.data.toList) ∧ Below w.heap.size w w' := by
  by_cases h : s.size < 1 ∨ 4 < s.size
  · have hb : isNum s.data.toList = false := by
      have hs : s.data.toList.length = s.size := by rw [Array.length_toList]; rfl
      cases hn : isNum s.data.toList
      · rfl
      · simp only [isNum, Bool.and_eq_true, decide_eq_true_eq] at hn; omega
    have : nbOf s.data.toList = .tuple #[.int .i64 0, .bool false] := by unfold nbOf numOf; rw [hb]; rfl
    rw [this]
    exact number_no s w h
  · exact number_in s w (by omega) (by omega)
end Go.Proofs.YtfceifmhlmiiiaaGreatDoor
