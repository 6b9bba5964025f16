/-
  A text of which one octet is another one, without any world.
-/
import Derived.Test.YtjiilcnbajcdhaaSca
import Derived.Laws.BytesArg
namespace Go.Proofs.Ytjiilcnbajcdhaa
open Go

theorem byteAt_list (s : ByteArray) (j : Nat) : byteAt s j = ((s.data.toList[j]?).map fun c => (c.toNat : Int)).getD 0 := by
  unfold byteAt
  by_cases h : j < s.size
  · have h2 : j < s.data.toList.length := by rw [Array.length_toList]; exact h
    rw [dif_pos h, List.getElem?_eq_getElem h2]
    rfl
  · have h2 : s.data.toList.length ≤ j := by rw [Array.length_toList]; exact Nat.le_of_not_lt h
    rw [dif_neg h, List.getElem?_eq_none h2]
    rfl
theorem bytes_ext {x y : ByteArray} (hz : x.size = y.size) (h : ∀ j, j < x.size → byteAt x j = byteAt y j) : x = y := by
  apply ByteArray.ext
  apply Array.ext hz
  intro j h1 h2
  have := h j h1
  rw [byteAt_lt x j h1, byteAt_lt y j h2] at this
  exact UInt8.toNat_inj.1 (by exact_mod_cast this)
theorem one_diff (low : Nat → Bool) {x y : ByteArray} {k : Nat} (hz : x.size = y.size) (hk : k < x.size) (hd : ∀ j, j ≠ k → byteAt x j = byteAt y j) : agreeB low x y = (!low k || decide (x = y)) := by
  cases hl : low k
  · rw [agree_yes low x y hz fun j _ => by
      by_cases e : j = k
      · subst e; exact .inr hl
      · exact .inl (hd j e)]
    rfl
  · by_cases hxy : x = y
    · rw [decide_eq_true hxy, agree_yes low x y hz fun j _ => .inl (by rw [hxy])]
      rfl
    · rw [decide_eq_false hxy, agree_no low x y k hk (fun e => hxy (bytes_ext hz fun j _ => by
        by_cases ej : j = k
        · subst ej; exact e
        · exact hd j ej)) hl]
      rfl
theorem agree_self (low : Nat → Bool) (x : ByteArray) : agreeB low x x = true := agree_yes low x x rfl fun _ _ => .inl rfl
theorem extract_list (s : ByteArray) (a b : Nat) : (s.extract a b).data.toList = (s.data.toList.take b).drop a := by
  rw [ByteArray.data_extract, Array.toList_extract, List.extract_eq_take_drop, List.drop_take]
theorem cut_size {s c : ByteArray} {k : Nat} (hk : k < s.size) (hc : c.size = 1) : (s.extract 0 k ++ c ++ s.extract (k + 1) s.size).size = s.size := by
  rw [ByteArray.size_append, ByteArray.size_append, ByteArray.size_extract, ByteArray.size_extract, hc]
  omega
theorem cut_other {s c : ByteArray} {k : Nat} (hk : k < s.size) (hc : c.size = 1) (j : Nat) (hj : j ≠ k) : byteAt s j = byteAt (s.extract 0 k ++ c ++ s.extract (k + 1) s.size) j := by
  have hl : s.data.toList.length = s.size := by rw [Array.length_toList]; rfl
  have hcl : c.data.toList.length = 1 := by rw [Array.length_toList]; exact hc
  rw [byteAt_list, byteAt_list, ByteArray.data_append, ByteArray.data_append, Array.toList_append, Array.toList_append, extract_list, extract_list, List.drop_zero]
  congr 2
  have hfull : s.data.toList.take s.size = s.data.toList := List.take_of_length_le (by omega)
  rw [hfull]
  rcases Nat.lt_or_gt_of_ne hj with h | h
  · rw [List.append_assoc, List.getElem?_append_left (by rw [List.length_take]; omega), List.getElem?_take, if_pos h]
  · rw [List.getElem?_append_right (by rw [List.length_append, List.length_take]; omega), List.length_append, List.length_take, hcl, List.getElem?_drop]
    congr 1
    omega
end Go.Proofs.Ytjiilcnbajcdhaa
