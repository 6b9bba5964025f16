/-
  The document's own Make. Over this seat's translation; of at most 65536 cells.
-/
import Derived.Test.YtjiilcnbajcdhaaMak
import Derived.Test.YtjiilcnbajcdhaaRgb
namespace Go.Proofs.Ytjiilcnbajcdhaa
open Go.RowKit

theorem flat_set2 : ∀ (l : List (Int × Bool)) (k : Nat) (s : Bool), k < l.length → (flat l).set (k * 2 + 1) (.bool s) = flat (l.set k ((nth l k).1, s))
  | [], k, _, h => by simp at h
  | p :: l, 0, s, _ => rfl
  | p :: l, k + 1, s, h => by
    have e1 : (k + 1) * 2 + 1 = k * 2 + 1 + 1 + 1 := by omega
    have e3 : nth (p :: l) (k + 1) = nth l k := by simp [nth]
    rw [e1, e3]
    simp only [flat, List.set_cons_succ]
    rw [flat_set2 l k s (by simpa using h)]
theorem OwnN.stored2 {w : World} {base g n : Nat} {f : Nat → Int × Bool} (h : OwnN w base g n f) (k : Nat) (s : Bool) (hk : k < n) :
    OwnN (w.setCell ⟨g, k * 2 + 1, none⟩ (.bool s)) base g n (fun j => if j = k then ((f k).1, s) else f j) := by
  have h2 := (World.ownsRow.stored h (k * 2 + 1) (.bool s)).1
  rw [flat_set2 _ k s (by rw [mkF_length]; exact hk), mkF_nth n f k hk, mkF_set] at h2
  exact h2
def RmakeP (n : Nat) (s : ByteArray) (d : List (Int × Int)) (w : World) (e : Ending) (w' : World) : Prop := ∃ v, e = .returned v ∧ Rd w' v (mkL n s d) ∧ Below w.heap.size w w'
set_option maxRecDepth 100000 in
set_option maxHeartbeats 2000000 in
theorem rmake_ct (n : Nat) (s : ByteArray) (sv : Value) (d : List (Int × Int)) (w : World) (hr : Rg w sv d) (hn : n ≤ 65536) :
    Calls Try.prog 16 #[.int .i64 n, .string s, sv] w (RmakeP n s d w) := by
  obtain ⟨i0, hi, hz0, hz1, hz2⟩ := info_parts info_byte
  obtain ⟨sa, cap, rfl⟩ := hr.slice
  have Hr := Lib.hid hr
  clear hr
  go_enter Try.func16, Try.ntmps16
  go_wp2_with (at_make; refine wpList_make_full _ rfl _ _ _ rfl w.heap.size 61 i0 (.agg #[.int .u8 0, .bool false]) 2 Try.underlying31 hi hz0 hz1 .i64 .i64 _ _ n rfl rfl rfl rfl (by rw [hz2]; omega) (by unfold maxLen; omega) (Nat.le_refl _) ?_; intro w2 hown hgrow)
  rw [flat_zero] at hown
  have hB2 : Below w.heap.size w w2 := ⟨hgrow.os, hgrow.tape, hgrow.output, hgrow.size, fun k hk => hgrow.block k hk (by simp)⟩
  have hO : OwnN w2 w.heap.size w.heap.size n (fun j => if j < 0 then (byteAt s j, inB d j) else (0, false)) := OwnN.congr (f := fun _ => (0, false)) hown (fun j _ => by simp)
  clear hown hgrow
  obtain ⟨g, hg⟩ : ∃ g, g = w.heap.size := ⟨_, rfl⟩
  have hgw : w.heap.size ≤ g := by omega
  rw [show OwnN w2 w.heap.size w.heap.size n (fun j => if j < 0 then (byteAt s j, inB d j) else (0, false)) = OwnN w2 w.heap.size g n (fun j => if j < 0 then (byteAt s j, inB d j) else (0, false)) by rw [hg]] at hO
  rw [show (Value.slice (some ⟨w.heap.size, 0, none⟩) n n) = .slice (some ⟨g, 0, none⟩) n n by rw [hg]]
  clear hg
  go_loopw [8] (fun i wr => ∃ (k : Nat), k ≤ n ∧ i = .int .i64 k ∧ OwnN wr w.heap.size g n (fun j => if j < k then (byteAt s j, inB d j) else (0, false)) ∧ Below w.heap.size w wr) (fun i _ => n - (intOf i).toNat)
  case atStart => exact ⟨0, Nat.zero_le _, rfl, hO, hB2⟩
  case round =>
    clear hO hB2
    obtain ⟨k, hk, rfl, hO, hB⟩ := hrel
    by_cases hlt : k < n
    · have hgl := hO.lt
      obtain ⟨c1, c2, f1, f2⟩ := hO.cellAt k hlt
      by_cases hs : k < s.size
      · have hbv : byteAt s k = ((s[k]'hs).toNat : Int) := by simp [byteAt, hs]
        have hst := hO.stored k ((s[k]'hs).toNat : Int) (inB d k) hlt
        have Hst := Lib.hid (hst.congr (f' := fun j => if j < k + 1 then (byteAt s j, inB d j) else (0, false)) (fun j _ => by
          by_cases e : j = k
          · subst e; rw [if_pos rfl, if_pos (by omega), hbv]
          · rw [if_neg e]
            by_cases e2 : j < k
            · rw [if_pos e2, if_pos (by omega)]
            · rw [if_neg e2, if_neg (by omega)]))
        have hB1 := hB.setCell (p := ⟨g, k * 2, none⟩) hgw (.int .u8 ((s[k]'hs).toNat : Int))
        have hin := rin_ct _ (k : Int) d _ (Hr.out.below hB1)
        have HB := Lib.hid (hB1.setCell (p := ⟨g, k * 2 + 1, none⟩) hgw (.bool (inB d k)))
        clear hst hO hB1 hbv
        generalize inB d k = r at *
        go_wp2_with fail
        refine hin.mono ?_
        rintro e w3 ⟨rfl, rfl⟩
        go_wp2
        go_roundw
        case rel => exact ⟨k + 1, by omega, by go_num, Hst.out, HB.out⟩
        case measure => simp [intOf]; omega
      · have hns : decide (k < s.size) = false := decide_eq_false hs
        have hbv : byteAt s k = 0 := by simp [byteAt, hs]
        have hst := hO.stored2 k (inB d k) hlt
        have Hst := Lib.hid (hst.congr (f' := fun j => if j < k + 1 then (byteAt s j, inB d j) else (0, false)) (fun j _ => by
          by_cases e : j = k
          · subst e; simp [hbv]
          · rw [if_neg e]
            by_cases e2 : j < k
            · rw [if_pos e2, if_pos (by omega)]
            · rw [if_neg e2, if_neg (by omega)]))
        have hin := rin_ct _ (k : Int) d _ (Hr.out.below hB)
        have HB := Lib.hid (hB.setCell (p := ⟨g, k * 2 + 1, none⟩) hgw (.bool (inB d k)))
        clear hst hO hbv
        generalize inB d k = r at *
        go_wp2_with fail
        refine hin.mono ?_
        rintro e w3 ⟨rfl, rfl⟩
        go_wp2
        go_roundw
        case rel => exact ⟨k + 1, by omega, by go_num, Hst.out, HB.out⟩
        case measure => simp [intOf]; omega
    · obtain rfl : k = n := by omega
      have hnm : decide (k < k) = false := decide_eq_false (by omega)
      have hrd := (hO.congr (f' := fun j => (byteAt s j, inB d j)) (fun j hj => by rw [if_pos hj])).rd
      have Hrd := Lib.hid hrd
      clear hO hrd
      go_wp2
      go_ret
      exact ⟨_, rfl, Hrd.out, hB⟩
end Go.Proofs.Ytjiilcnbajcdhaa
