/-
  Contracts of slices.Clone at cells, and of package cells' Store: the cells that come back are new ones. Over this seat's translation; of at most 100000 cells.
-/
import Derived.Test.YtinbankkpbdlbaaClb
import Derived.Test.YtinbankkpbdlbaaApp
namespace Go.Proofs.Ytinbankkpbdlbaa
open Go.RowKit

theorem Own.mono {w : World} {base base' g cap : Nat} {l : List (Int × Bool)} (h : Own w base g cap l) (hb : base' ≤ base) : Own w base' g cap l := by
  rcases h.2 with ⟨h0, _⟩ | ⟨g', cap', cur, hv, hb', r⟩
  · cases h0
  · exact ⟨h.1, .inr ⟨g', cap', cur, hv, Nat.le_trans hb hb', r⟩⟩
theorem flat_set : ∀ (l : List (Int × Bool)) (k : Nat) (v : Int) (s : Bool), k < l.length → ((flat l).set (k * 2) (.int .u8 v)).set (k * 2 + 1) (.bool s) = flat (l.set k (v, s))
  | [], k, _, _, h => by simp at h
  | p :: l, 0, v, s, _ => rfl
  | p :: l, k + 1, v, s, h => by
    have e1 : (k + 1) * 2 = k * 2 + 1 + 1 := by omega
    rw [e1]
    simp only [flat, List.set_cons_succ]
    rw [flat_set l k v s (by simpa using h)]
/-- A cell is stored. -/
theorem Own.stored {w : World} {base g cap : Nat} {l : List (Int × Bool)} (h : Own w base g cap l) (k : Nat) (v : Int) (s : Bool) (hk : k < l.length) :
    Own ((w.setCell ⟨g, k * 2, none⟩ (.int .u8 v)).setCell ⟨g, k * 2 + 1, none⟩ (.bool s)) base g cap (l.set k (v, s)) := by
  have h1 := (World.ownsRow.stored h (k * 2) (.int .u8 v)).1
  have h2 := (World.ownsRow.stored h1 (k * 2 + 1) (.bool s)).1
  unfold Own
  rw [List.length_set, ← flat_set l k v s hk]
  exact h2
theorem Own.cellAt {w : World} {base g cap : Nat} {l : List (Int × Bool)} (h : Own w base g cap l) (k : Nat) (hk : k < l.length) :
    w.cell? ⟨g, k * 2, none⟩ = some (.int .u8 (nth l k).1) ∧ w.cell? ⟨g, k * 2 + 1, none⟩ = some (.bool (nth l k).2) ∧ w.frozen? ⟨g, k * 2, none⟩ = false ∧ w.frozen? ⟨g, k * 2 + 1, none⟩ = false := by
  obtain ⟨e1, e2⟩ := flat_get l k hk
  exact ⟨by rw [World.ownsRow.cellAt h _ (by omega)]; exact e1, by rw [World.ownsRow.cellAt h _ (by omega)]; exact e2, World.ownsRow.frozenAt h _, World.ownsRow.frozenAt h _⟩

/-- What Clone hands back: cells of its own, or nil. -/
def CloneP (l : List (Int × Bool)) (w : World) (e : Ending) (w' : World) : Prop :=
  Below w.heap.size w w' ∧ ((∃ g cap, e = .returned (.slice (some ⟨g, 0, none⟩) l.length cap) ∧ Own w' w.heap.size g cap l) ∨ (e = .returned (.slice none 0 0) ∧ l = []))
set_option maxHeartbeats 1000000 in
theorem clone_ct (sv : Value) (l : List (Int × Bool)) (w : World) (hr : Rd w sv l) (hn : l.length ≤ 100000) :
    Calls Try.prog 48 #[sv] w (CloneP l w) := by
  have hrd := hr
  obtain ⟨a, cap, rfl, hcap, hm, hr⟩ := hr
  have hnil := Lib.run_eql_slice_nil (P := Try.prog)
  cases a with
  | none =>
    obtain rfl : l = [] := by
      rcases hr with h | ⟨_, _, h, _⟩
      · exact h
      · cases h
    clear hr hrd
    go_enter Try.func48, Try.ntmps48
    go_wp2
    go_ret
    exact ⟨Below.refl _ _, .inr ⟨rfl, rfl⟩⟩
  | some a =>
    clear hr
    have o0 : Own (w.alloc (.cells #[] 41)) w.heap.size w.heap.size 0 [] := ⟨rfl, .inr ⟨w.heap.size, 0, #[], rfl, Nat.le_refl _, heap_alloc_new w _, by simp, by simp [maxLen], rfl, rfl⟩⟩
    have b0 : Below w.heap.size w (w.alloc (.cells #[] 41)) := (by repeat' (first | exact Below.refl _ _ | (refine Below.setCell ?_ (by first | (simp; done) | (simp; omega) | omega) _) | (refine Below.drew ?_) | (refine Below.drewN ?_ _) | (refine Below.alloc ?_ (by first | (simp; done) | (simp; omega) | omega) _)))
    obtain ⟨g1, c1, w1, r1, o1, _, b1⟩ := app_bytes (w.alloc (.cells #[] 41)) w.heap.size w.heap.size 0 [] l (.slice (some a) l.length cap) 32 o0 (hrd.below b0).src (by simp; omega) (by simp)
    rw [List.nil_append] at r1 o1
    have b1' := b0.trans b1
    clear o0 b0 b1 hrd
    have R1 := Lib.hid r1
    have O1 := Lib.hid o1
    clear r1 o1
    go_enter Try.func48, Try.ntmps48
    go_wp2_with (at_builtin; refine step_app (by rfl) _ _ _ _ rfl _ _ rfl rfl _ _ R1.out ?_)
    go_ret
    exact ⟨b1', .inl ⟨g1, c1, rfl, O1.out⟩⟩

/-- What Store hands back. -/
def StoreP (l : List (Int × Bool)) (x : Int) (w : World) (e : Ending) (w' : World) : Prop := ∃ v, e = .returned (.tuple #[v, .int .i64 x]) ∧ Rd w' v l ∧ Below w.heap.size w w'
theorem nth_set_len (l : List (Int × Bool)) (k : Nat) (p : Int × Bool) : (l.set k p).length = l.length := List.length_set
set_option maxHeartbeats 2000000 in
theorem store_yes (l : List (Int × Bool)) (sv : Value) (k : Nat) (v : Int) (s : Bool) (w : World) (hr : Rd w sv l) (hk : k < l.length) (hn : l.length ≤ 100000) :
    Calls Try.prog 28 #[sv, .int .i64 k, .agg #[.int .u8 v, .bool s]] w (StoreP (l.set k (v, s)) 0 w) := by
  have hb0 : Below w.heap.size w (w.alloc (.cells #[.int .u8 v, .bool s] 41)) := (by repeat' (first | exact Below.refl _ _ | (refine Below.setCell ?_ (by first | (simp; done) | (simp; omega) | omega) _) | (refine Below.drew ?_) | (refine Below.drewN ?_ _) | (refine Below.alloc ?_ (by first | (simp; done) | (simp; omega) | omega) _)))
  have Hc := Lib.hid (clone_ct sv l (w.alloc (.cells #[.int .u8 v, .bool s] 41)) (hr.below hb0) hn)
  have Hr := Lib.hid (hr.below hb0)
  have bv : w.heap.size < (w.alloc (.cells #[.int .u8 v, .bool s] 41)).heap.size := by simp
  have v1 : (w.alloc (.cells #[.int .u8 v, .bool s] 41)).cell? ⟨w.heap.size, 0, none⟩ = some (.int .u8 v) := (by simp [go_sem])
  have v2 : (w.alloc (.cells #[.int .u8 v, .bool s] 41)).cell? ⟨w.heap.size, 1, none⟩ = some (.bool s) := (by simp [go_sem])
  clear hr
  go_enter Try.func28, Try.ntmps28
  go_wp2_with fail
  refine Hc.out.mono ?_
  generalize (w.alloc (.cells #[.int .u8 v, .bool s] 41)) = wa at *
  rintro e w1 ⟨hB, hP⟩
  have hk' := hk
  rcases hP with ⟨g, cap, rfl, ho⟩ | ⟨rfl, rfl⟩
  · obtain ⟨c1, c2, f1, f2⟩ := ho.cellAt k hk
    rw [← hB.cell (p := ⟨w.heap.size, 0, none⟩) bv] at v1
    rw [← hB.cell (p := ⟨w.heap.size, 1, none⟩) bv] at v2
    have hst := Lib.hid (ho.stored k v s hk)
    have hlt := ho.lt
    have Hh := Lib.hid (holds_yes l sv k w1 (Hr.out.below hB) hk)
    have Hl := Lib.hid (nth_set_len l k (v, s))
    clear ho Hc Hr bv
    generalize (nth l k).1 = x1 at *
    generalize (nth l k).2 = s1 at *
    have hm : l.length ≤ 9223372036854775807 := by omega
    go_wp2_with fail
    refine Hh.out.mono ?_
    rintro e w2 ⟨rfl, rfl⟩
    clear Hh
    go_wp2
    go_ret2
    refine ⟨_, rfl, ?_, ?_⟩
    · have := hst.out.rd
      rw [Hl.out] at this
      exact this
    · have hz := hb0.size
      exact hb0.trans (((hB.mono hz).setCell (p := ⟨g, k * 2, none⟩) (Nat.le_trans hz hlt.2) _).setCell (p := ⟨g, k * 2 + 1, none⟩) (Nat.le_trans hz hlt.2) _)
  · simp at hk
set_option maxHeartbeats 2000000 in
theorem store_no (l : List (Int × Bool)) (sv : Value) (i : Int) (v : Int) (s : Bool) (w : World) (hr : Rd w sv l) (hk : i < 0 ∨ l.length ≤ i) (hn : l.length ≤ 100000) :
    Calls Try.prog 28 #[sv, .int .i64 i, .agg #[.int .u8 v, .bool s]] w (StoreP l 2 w) := by
  have hb0 : Below w.heap.size w (w.alloc (.cells #[.int .u8 v, .bool s] 41)) := (by repeat' (first | exact Below.refl _ _ | (refine Below.setCell ?_ (by first | (simp; done) | (simp; omega) | omega) _) | (refine Below.drew ?_) | (refine Below.drewN ?_ _) | (refine Below.alloc ?_ (by first | (simp; done) | (simp; omega) | omega) _)))
  have Hc := Lib.hid (clone_ct sv l (w.alloc (.cells #[.int .u8 v, .bool s] 41)) (hr.below hb0) hn)
  have Hr := Lib.hid (hr.below hb0)
  clear hr
  have Hk := Lib.hid hk
  clear hk
  go_enter Try.func28, Try.ntmps28
  go_wp2_with fail
  refine Hc.out.mono ?_
  generalize (w.alloc (.cells #[.int .u8 v, .bool s] 41)) = wa at *
  rintro e w1 ⟨hB, hP⟩
  obtain ⟨y, rfl, hy⟩ : ∃ y, e = .returned y ∧ Rd w1 y l := by
    rcases hP with ⟨g, cap, rfl, ho⟩ | ⟨rfl, rfl⟩
    · exact ⟨_, rfl, ho.rd⟩
    · exact ⟨_, rfl, rd0 _⟩
  have Hh := Lib.hid (holds_no l sv i w1 (Hr.out.below hB) Hk.out)
  have Hy := Lib.hid hy
  clear hy hP Hc Hr
  go_wp2_with fail
  refine Hh.out.mono ?_
  rintro e w2 ⟨rfl, rfl⟩
  clear Hh
  go_wp2
  go_ret2
  exact ⟨_, rfl, Hy.out, hb0.next hB⟩
end Go.Proofs.Ytinbankkpbdlbaa
