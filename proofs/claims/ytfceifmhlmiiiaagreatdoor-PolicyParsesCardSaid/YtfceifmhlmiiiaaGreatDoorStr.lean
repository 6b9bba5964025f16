/-
  The document's stretches of marks: what comes back are the ranges of the marked places. Over this seat's translation; of at most 100000 marks.
-/
import Derived.Test.YtfceifmhlmiiiaaGreatDoorSeq
namespace Go.Proofs.YtfceifmhlmiiiaaGreatDoor
open Go.RowKit

/-- A slice of marks that reads as a list. -/
def Rm (w : World) (v : Value) (m : List Bool) : Prop :=
  ∃ a cap, v = .slice a m.length cap ∧ m.length ≤ cap ∧ cap ≤ maxLen ∧ (m = [] ∨ ∃ b off, a = some ⟨b, off, none⟩ ∧ b < w.heap.size ∧ ∀ k, k < m.length → w.cell? ⟨b, off + k, none⟩ = some (.bool (m.getD k false)))
theorem Rm.below {w w' : World} {v : Value} {m : List Bool} (h : Rm w v m) (hb : Below w.heap.size w w') : Rm w' v m := by
  obtain ⟨a, cap, hv, hl, hm, h⟩ := h
  refine ⟨a, cap, hv, hl, hm, ?_⟩
  rcases h with h | ⟨b, off, ha, hlt, hc⟩
  · exact .inl h
  · refine .inr ⟨b, off, ha, Nat.lt_of_lt_of_le hlt hb.size, fun k hk => ?_⟩
    rw [hb.cell (p := ⟨b, off + k, none⟩) hlt]
    exact hc k hk
theorem flatR_set_last (q : List (Int × Int)) (a b c : Int) : (flatR (q ++ [(a, b)])).set (q.length * 2 + 1) (.int .i64 c) = flatR (q ++ [(a, c)]) := by
  induction q with
  | nil => rfl
  | cons p r ih =>
    have e1 : (r.length + 1) * 2 + 1 = r.length * 2 + 1 + 1 + 1 := by omega
    simp only [List.cons_append, flatR, List.length_cons, e1, List.set_cons_succ]
    rw [ih]
/-- A slice that owns ranges lies on in a later world. -/
theorem OwnR.below {w w' : World} {base : Nat} {v : Value} {l : List (Int × Int)} (h : OwnR w base v l) (hb : Below w.heap.size w w') : OwnR w' base v l := by
  obtain ⟨ho, hn⟩ := h
  refine ⟨⟨ho.1, ?_⟩, hn⟩
  rcases ho.2 with h0 | ⟨g, cap, cur, hv, hbg, hg, r⟩
  · exact .inl h0
  · exact .inr ⟨g, cap, cur, hv, hbg, by rw [hb.block g (Array.getElem?_eq_some_iff.1 hg).1]; exact hg, r⟩

/-- What Stretches hands back. -/
def StretchP (m : List Bool) (w : World) (e : Ending) (w' : World) : Prop := ∃ v T, e = .returned v ∧ Rg w' v T ∧ Marked (fun j => m.getD j false) T m.length ∧ Below w.heap.size w w'
set_option maxRecDepth 100000 in
set_option maxHeartbeats 4000000 in
theorem stretch_ct (sv : Value) (m : List Bool) (w : World) (hr : Rm w sv m) (hN : m.length ≤ 100000) :
    Calls Tryz.prog 31 #[sv] w (StretchP m w) := by
  obtain ⟨i0, hi, hz0, hz1, hz2⟩ := info_parts info_range
  obtain ⟨sa, cap, rfl, hcap, hm, hr⟩ := hr
  unfold maxLen at hm
  have Hc := Lib.hid hr
  clear hr
  go_enter Tryz.func31, Tryz.ntmps31
  go_wp2
  go_loopw [3, 4] (fun sl i wr => ∃ (k : Nat) (pre : List (Int × Int)) (v : Value), k ≤ m.length ∧ i = .int .i64 k ∧ v = sl ∧ Hid (Marked (fun j => m.getD j false) pre k) ∧ Hid (OwnR wr w.heap.size v pre) ∧ Below w.heap.size w wr) (fun _ i _ => m.length - (intOf i).toNat)
  case atStart => exact ⟨0, [], _, Nat.zero_le _, rfl, rfl, Marked.start _, ⟨World.ownsRow_nil _ _ _ _, by simp⟩, Below.refl _ _⟩
  case round =>
    obtain ⟨k, pre, v0, hk, rfl, rfl, hmk, hO, hB⟩ := hrel
    by_cases hlt : k < m.length
    · rcases Hc.out with rfl | ⟨b, off, rfl, hb, hc⟩
      · simp at hlt
      have h1 := hc k hlt
      have Hc' := Lib.hid hc
      clear hc
      rw [← hB.cell hb] at h1
      have hskip := hmk.out.skip (m := fun j => m.getD j false)
      have hnew := hmk.out.new (m := fun j => m.getD j false)
      have hmore := hmk.out.last (m := fun j => m.getD j false)
      cases hx : m.getD k false
      · rw [hx] at h1
        have Hs := Lib.hid (hskip hx)
        clear hskip hnew hmore hx Hc Hc'
        go_wp2
        go_roundw
        case rel => exact ⟨k + 1, pre, _, by omega, by go_num, rfl, Hs, hO, hB⟩
        case measure => simp [intOf]; omega
      · rw [hx] at h1
        cases k with
        | zero =>
          have Hs := Lib.hid (hnew hx (.inl rfl))
          rw [show ((0 : Nat) : Int) = 0 from rfl]
          rw [Nat.add_zero] at h1
          obtain ⟨ho, hn⟩ := hO.out
          have hfew := hmk.out.few
          have hvb : ∀ j, v0.ownBlock = some j → w.heap.size ≤ j := fun j ej => by
            rcases ho.2 with ⟨rfl, _⟩ | ⟨g, cap, cur, rfl, hbg, _, _⟩
            · simp [Value.ownBlock] at ej
            · obtain rfl : g = j := by simpa [Value.ownBlock] using ej
              exact hbg
          clear hskip hnew hmore Hc Hc' hO hmk hn
          go_wp2_with (at_builtin; refine wpList_append_own _ rfl _ _ 23 rfl w.heap.size 42 i0 (.agg #[.int .i64 0, .int .i64 0]) 2 16 Tryz.underlying23 hi hz0 hz1 hz2 rfl (by decide) _ _ _ rfl (ho.alloc _) ⟨wr.heap.size, 0, none⟩ 1 1 [.int .i64 0, .int .i64 0] rfl rfl (cell_two_new _ _ _ _) (by simp [Value.oneCell']) (by unfold maxLen; omega) (by omega) (by have := hB.size; simp; omega) ?_; intro v' w1 hown' hgrow _)
          have Ho' : Hid (OwnR w1 w.heap.size v' (pre ++ [(((0 : Nat) : Int), ((0 : Nat) : Int))])) := by
            refine ⟨by rw [flatR_append, List.length_append]; exact hown', ?_⟩
            obtain ⟨g', cap', rfl⟩ := ownsRow_succ hown'
            simp
          have hB1 : Below w.heap.size w w1 := (hB.alloc hB.size _).grown (show (wr.alloc _).grownBy w1 v0.ownBlock from hgrow) (by have := hB.size; simp; omega) (fun j ej => hvb j ej)
          clear hown' hgrow ho
          go_wp2
          go_roundw
          case rel => exact ⟨_, _, _, (by omega : 0 + 1 ≤ m.length), by go_num, rfl, Hs, Ho', hB1⟩
          case measure => simp [intOf]; omega
        | succ j =>
          have h2 := Hc'.out j (by omega)
          rw [← hB.cell hb] at h2
          cases hy : m.getD j false
          · rw [hy] at h2
            have Hs := Lib.hid (hnew hx (.inr hy))
            obtain ⟨ho, hn⟩ := hO.out
            have hfew := hmk.out.few
            have hvb : ∀ j, v0.ownBlock = some j → w.heap.size ≤ j := fun j ej => by
              rcases ho.2 with ⟨rfl, _⟩ | ⟨g, cap, cur, rfl, hbg, _, _⟩
              · simp [Value.ownBlock] at ej
              · obtain rfl : g = j := by simpa [Value.ownBlock] using ej
                exact hbg
            clear hskip hnew hmore Hc Hc' hO hmk hn
            go_wp2_with (at_builtin; refine wpList_append_own _ rfl _ _ 23 rfl w.heap.size 42 i0 (.agg #[.int .i64 0, .int .i64 0]) 2 16 Tryz.underlying23 hi hz0 hz1 hz2 rfl (by decide) _ _ _ rfl (ho.alloc _) ⟨wr.heap.size, 0, none⟩ 1 1 [.int .i64 ((j + 1 : Nat) : Int), .int .i64 ((j + 1 : Nat) : Int)] rfl rfl (cell_two_new _ _ _ _) (by simp [Value.oneCell']) (by unfold maxLen; omega) (by omega) (by have := hB.size; simp; omega) ?_; intro v' w1 hown' hgrow _)
            have Ho' : Hid (OwnR w1 w.heap.size v' (pre ++ [(((j + 1 : Nat) : Int), ((j + 1 : Nat) : Int))])) := by
              refine ⟨by rw [flatR_append, List.length_append]; exact hown', ?_⟩
              obtain ⟨g', cap', rfl⟩ := ownsRow_succ hown'
              simp
            have hB1 : Below w.heap.size w w1 := (hB.alloc hB.size _).grown (show (wr.alloc _).grownBy w1 v0.ownBlock from hgrow) (by have := hB.size; simp; omega) (fun j ej => hvb j ej)
            clear hown' hgrow ho
            go_wp2
            go_roundw
            case rel => exact ⟨_, _, _, (by omega : j + 1 + 1 ≤ m.length), by go_num, rfl, Hs, Ho', hB1⟩
            case measure => simp [intOf]; omega
          · rw [hy] at h2
            obtain ⟨q, a, rfl⟩ := hmore (by omega) hy
            have Hs := Lib.hid (hmk.out.more hx)
            obtain ⟨ho, hn⟩ := hO.out
            rcases ho.2 with ⟨rfl, h0⟩ | ⟨g, cap0, cur, rfl, hbg, hg, hnc, hcm, hcs, htk⟩
            · simp at h0
            have hl : (q ++ [(a, ((j + 1 : Nat) : Int) - 1)]).length = q.length + 1 := by simp
            rw [hl] at ho hnc htk
            simp only [hl] at hB ⊢
            have hlast := flatR_set_last q a (((j + 1 : Nat) : Int) - 1) ((j + 1 : Nat) : Int)
            have hfl := flatR_length (q ++ [(a, ((j + 1 : Nat) : Int) - 1)])
            rw [hl] at hfl
            have hc1 : (wr.cell? ⟨g, q.length * 2 + 1, none⟩).isSome = true := by
              rw [World.ownsRow.cellAt ho _ (by omega), List.getElem?_eq_getElem (by omega)]; rfl
            obtain ⟨u, hu⟩ := Option.isSome_iff_exists.1 hc1
            have hf1 := World.ownsRow.frozenAt ho (q.length * 2 + 1)
            have hst := (World.ownsRow.stored ho (q.length * 2 + 1) (.int .i64 ((j + 1 : Nat) : Int))).1
            rw [hlast] at hst
            have Ho' : Hid (OwnR (wr.setCell ⟨g, q.length * 2 + 1, none⟩ (.int .i64 ((j + 1 : Nat) : Int))) w.heap.size (.slice (some ⟨g, 0, none⟩) (q.length + 1) cap0) (q ++ [(a, ((j + 1 : Nat) : Int))])) := ⟨by simpa using hst, by simp⟩
            have hB1 : Below w.heap.size w (wr.setCell ⟨g, q.length * 2 + 1, none⟩ (.int .i64 ((j + 1 : Nat) : Int))) := hB.setCell (p := ⟨g, q.length * 2 + 1, none⟩) hbg _
            clear hskip hnew hmore Hc Hc' hO hmk hn ho hst hlast hfl hc1 hl
            have hq : q.length + 1 ≤ 9223372036854775807 := by unfold maxLen at hcm; omega
            go_wp2
            go_roundw
            case rel => exact ⟨_, _, _, (by omega : j + 1 + 1 ≤ m.length), by go_num, rfl, Hs, Ho', hB1⟩
            case measure => simp [intOf]; omega
    · have Hs := hmk.out
      obtain rfl : k = m.length := by omega
      have HS := Lib.hid Hs
      clear Hs Hc hmk
      go_wp2
      go_ret
      exact ⟨_, pre, rfl, hO.out.rg, HS.out, hB⟩
end Go.Proofs.YtfceifmhlmiiiaaGreatDoor
