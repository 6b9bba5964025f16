/-
  Contracts of package cells' functions that only read: In, Load, Alike; of the document's answer for Alike; and of the laws' own Few and Ranges. Over this seat's translation; no condition.
-/
import Derived.Test.YtdafilfnmdfacaaRgc
namespace Go.Proofs.Ytdafilfnmdfacaa
open Go.RowKit

theorem Rd.take {w : World} {b off cap : Nat} {l : List (Int × Bool)} (n : Nat) (hn : n ≤ l.length) (hcap : l.length ≤ cap) (hm : cap ≤ maxLen) (hb : b < w.heap.size)
    (hc : ∀ k, k < l.length → w.cell? ⟨b, off + k * 2, none⟩ = some (.int .u8 (nth l k).1) ∧ w.cell? ⟨b, off + k * 2 + 1, none⟩ = some (.bool (nth l k).2)) : Rd w (.slice (some ⟨b, off, none⟩) n cap) (l.take n) := by
  refine ⟨some ⟨b, off, none⟩, cap, by rw [List.length_take, Nat.min_eq_left hn], by rw [List.length_take]; omega, hm, .inr ⟨b, off, rfl, hb, fun k hk => ?_⟩⟩
  rw [List.length_take] at hk
  have e : nth (l.take n) k = nth l k := by
    unfold nth
    rw [List.getD_eq_getElem?_getD, List.getD_eq_getElem?_getD, List.getElem?_take, if_pos (by omega)]
  rw [e]
  exact hc k (by omega)
theorem Rg.take {w : World} {b off cap : Nat} {l : List (Int × Int)} (n : Nat) (hn : n ≤ l.length) (hcap : l.length ≤ cap) (hm : cap ≤ maxLen) (hb : b < w.heap.size)
    (hc : ∀ k, k < l.length → w.cell? ⟨b, off + k * 2, none⟩ = some (.int .i64 (nthR l k).1) ∧ w.cell? ⟨b, off + k * 2 + 1, none⟩ = some (.int .i64 (nthR l k).2)) : Rg w (.slice (some ⟨b, off, none⟩) n cap) (l.take n) := by
  refine ⟨some ⟨b, off, none⟩, cap, by rw [List.length_take, Nat.min_eq_left hn], by rw [List.length_take]; omega, hm, .inr ⟨b, off, rfl, hb, fun k hk => ?_⟩⟩
  rw [List.length_take] at hk
  have e : nthR (l.take n) k = nthR l k := by
    unfold nthR
    rw [List.getD_eq_getElem?_getD, List.getD_eq_getElem?_getD, List.getElem?_take, if_pos (by omega)]
  rw [e]
  exact hc k (by omega)
/-- What 'Few' hands back. -/
def FewB (l : List (Int × Bool)) (w : World) (e : Ending) (w' : World) : Prop := ∃ v, e = .returned v ∧ Rd w v (l.take 300) ∧ w = w'
def FewR (l : List (Int × Int)) (w : World) (e : Ending) (w' : World) : Prop := ∃ v, e = .returned v ∧ Rg w v (l.take 20) ∧ w = w'
set_option maxHeartbeats 400000 in
theorem fewr_ct (sv : Value) (l : List (Int × Int)) (w : World) (hr : Rg w sv l) : Calls Try.prog 12 #[sv] w (FewR l w) := by
  have Hr := Lib.hid hr
  obtain ⟨a, cap, rfl, hcap, hn, hr⟩ := hr
  by_cases h : 20 < l.length
  · rcases hr with rfl | ⟨b, off, rfl, hb, hc⟩
    · simp at h
    have Hfin := Lib.hid (Rg.take 20 (by omega) hcap hn hb hc)
    unfold maxLen at hn
    clear hc Hr hb
    go_enter Try.func12, Try.ntmps12
    go_wp2
    go_ret
    exact ⟨_, rfl, Hfin.out, rfl⟩
  · have E := Lib.hid (show l.take 20 = l from List.take_of_length_le (by omega))
    unfold maxLen at hn
    clear hr
    go_enter Try.func12, Try.ntmps12
    go_wp2
    go_ret
    exact ⟨_, rfl, by rw [E.out]; exact Hr.out, rfl⟩

/-! ### a cell -/
/-! ### alike, one by one -/
def alikeL : List (Int × Bool) → List (Int × Bool) → Bool
  | [], [] => true
  | a :: l, b :: m => alikeB a.1 a.2 b.1 b.2 && alikeL l m
  | _, _ => false
theorem alikeL_len : ∀ (l m : List (Int × Bool)), ¬ l.length = m.length → alikeL l m = false
  | [], [], h => absurd rfl h
  | a :: l, b :: m, h => by rw [alikeL, alikeL_len l m (by simpa using h), Bool.and_false]
  | [], _ :: _, _ => rfl
  | _ :: _, [], _ => rfl
theorem alikeL_drop (l m : List (Int × Bool)) (k : Nat) (h : k < l.length) (g : k < m.length) : alikeL (l.drop k) (m.drop k) = (alikeB (nth l k).1 (nth l k).2 (nth m k).1 (nth m k).2 && alikeL (l.drop (k + 1)) (m.drop (k + 1))) := by
  rw [drop_cons' l k (0, false) h, drop_cons' m k (0, false) g]
  rfl
theorem alikeL_end (l m : List (Int × Bool)) (k : Nat) (h : l.length ≤ k) (g : m.length ≤ k) : alikeL (l.drop k) (m.drop k) = true := by
  rw [List.drop_of_length_le h, List.drop_of_length_le g]
  rfl

end Go.Proofs.Ytdafilfnmdfacaa
