/-
  The opcodes of a name, as the program's All lists them. Over this seat's translation.
-/
import Derived.Test.YtddeakcipmhobaaDoorOqf
import Derived.Test.YtddeakcipmhobaaDoorQrw
import Derived.Test.YtddeakcipmhobaaDoorMrw
namespace Go.Proofs.YtddeakcipmhobaaDoor
open Go.RowKit
set_option linter.unusedSimpArgs false
set_option linter.unusedVariables false
set_option maxRecDepth 20000

/-- An octet, as a row's element. -/
def u8c (n : Nat) : List Value := [.int .u8 (n : Int)]
theorem u8c_len (n : Nat) : (u8c n).length = 1 := rfl
theorem u8c_one (n : Nat) : ∀ u ∈ u8c n, u.oneCell' = true := by
  intro u hu
  simp only [u8c, List.mem_cons, List.not_mem_nil, or_false] at hu
  subst hu
  rfl
theorem info_o8 : (Tryd.prog.info? 5).map (fun i => (i.zero, i.size, i.bytes)) = some (some (.int .u8 0), 1, 1) := by kernel_rfl
theorem kU8 : ElemK Tryd.prog 29 5 1 where
  sl := Tryd.underlying29
  inf := by
    obtain ⟨i, hi, he⟩ := Option.map_eq_some_iff.1 info_o8
    simp only [Prod.mk.injEq] at he
    exact ⟨i, _, hi, he.1, he.2.1, rfl, by rw [he.2.2]; decide⟩
theorem build_o8 (x : Int) (w : World) : (Instr.buildSlice 29 1 #[(0, .int .u8 x)]).run Tryd.prog w = .ok (.slice (some ⟨w.heap.size, 0, none⟩) 1 1) (w.alloc (.cells #[.int .u8 x] 5)) := by kernel_rfl
def allN (nm : List UInt8) (k : Nat) : List Nat := (List.range k).filter fun n : Nat => nameL (n : Int) == nm
theorem allN_yes (nm : List UInt8) (k : Nat) (h : (nameL (k : Int) == nm) = true) : allN nm (k + 1) = allN nm k ++ [k] := by
  unfold allN
  rw [List.range_succ, List.filter_append]
  simp [h]
theorem allN_no (nm : List UInt8) (k : Nat) (h : (nameL (k : Int) == nm) = false) : allN nm (k + 1) = allN nm k := by
  unfold allN
  rw [List.range_succ, List.filter_append]
  simp [h]
theorem allN_len (nm : List UInt8) (k : Nat) : (allN nm k).length ≤ k := by
  unfold allN
  have := List.length_filter_le (fun n : Nat => nameL (n : Int) == nm) (List.range k)
  rw [List.length_range] at this
  exact this
theorem allN_lt (nm : List UInt8) (k : Nat) : ∀ x ∈ allN nm k, x < k := fun x hx => List.mem_range.1 (List.mem_filter.1 hx).1
/-- A row of octets that a call made. -/
def RowBack (L : List Nat) (w : World) (e : Ending) (w' : World) : Prop := ∃ v blk, e = .returned v ∧ RowAt u8c 1 v L blk ∧ Mem w.heap.size [] w w' blk
set_option maxHeartbeats 8000000 in
theorem qall_ct (nm : ByteArray) (w : World) : Calls Tryd.prog 13 #[.string nm] w fun e w' => RowBack (allN nm.toList 256) w e w' := by
  have HE : Hid (∀ (k : Nat) (wr : World), k < 256 → Calls Tryd.prog 15 #[.int .u8 k] wr fun e w' => e = .returned (.tuple #[.string (nameV k), .string (cut3 tblB (8 * (k : Int).toNat + 4))]) ∧ Below wr.heap.size wr w') := by
    intro k wr hk
    have K1 := qentry_ct (k : Int) wr (by omega) (by omega)
    obtain ⟨e1, _⟩ := q_all (k : Int) (by omega) (by omega)
    rw [ba_inj (cut3 tblB (8 * (k : Int).toNat)) (nameV k) (by rw [cut3_list, nameV_list]; exact e1)] at K1
    exact K1
  have H := Mem.start w
  go_enter Tryd.func13, Tryd.ntmps13
  go_wp2_with fail
  go_loopw [3, 8] (fun s i wr => ∃ k : Nat, k ≤ 256 ∧ i = .int .i64 k ∧ ∃ blk, RowAt u8c 1 s (allN nm.toList k) blk ∧ Mem w.heap.size [] w wr blk) (fun _ i _ => 256 - (intOf i).toNat)
  case atStart => exact ⟨0, Nat.zero_le _, rfl, [], RowAt.nil, H⟩
  case round =>
    clear H
    obtain ⟨k, hk, rfl, blk, hA, H⟩ := hrel
    have hlen := allN_len nm.toList k
    have HA := Lib.hid hA
    clear hA
    by_cases hlt : k < 256
    · have Q1 := Lib.hid (fun wr => HE.out k wr hlt)
      clear HE
      generalize hwy : cut3 tblB (8 * (k : Int).toNat + 4) = wy at Q1
      clear hwy
      cases hq : ((nameV (k : Int)).toList == nm.toList)
      · have hn := Lib.hid (allN_no nm.toList k (by rw [← nameV_list]; exact hq))
        generalize nameV (k : Int) = nk at *
        go_wp2_with (first
          | (go_at_call 15; (with_reducible refine (Q1.out _).mono ?_); rintro e w2 ⟨rfl, hB⟩; replace H := H.next hB; clear hB)
          | fail)
        go_roundw
        case rel => exact ⟨k + 1, by omega, by go_num, blk, by rw [hn.out]; exact HA.out, H⟩
        case measure => simp [intOf]; omega
      · have hn := Lib.hid (allN_yes nm.toList k (by rw [← nameV_list]; exact hq))
        generalize nameV (k : Int) = nk at *
        go_wp2_with (first
          | (go_at_call 15; (with_reducible refine (Q1.out _).mono ?_); rintro e w2 ⟨rfl, hB⟩; replace H := H.next hB; clear hB)
          | (refine wpList_mrow rfl _ _ _ rfl H _ (by simp only [List.map_toArray, List.map_cons, List.map_nil, Act.eval]; rfl) _ _ (build_o8 k) ?_; clear H; intro R1 w1 H)
          | (refine wpList_mappG rfl _ _ rfl kU8 u8c_len u8c_one HA.out [k] 1 rfl (by decide) (by omega) _ (by rw [List.append_nil]; exact H) rfl rfl rfl ?_; clear H HA; intro v' blk' w1 hA H; rw [List.append_nil] at H; have HA := Lib.hid hA; clear hA)
          | fail)
        go_roundw
        case rel => exact ⟨k + 1, by omega, by go_num, blk', by rw [hn.out]; exact HA.out, H⟩
        case measure => simp [intOf]; omega
    · obtain rfl : k = 256 := by omega
      go_wp2
      go_ret
      exact ⟨_, blk, rfl, HA.out, H⟩
end Go.Proofs.YtddeakcipmhobaaDoor
