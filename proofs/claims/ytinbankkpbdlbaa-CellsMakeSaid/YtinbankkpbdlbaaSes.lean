/-
  Package cells' Secrets: what comes back are the ranges of the secret cells. Over this seat's translation; of at most 100000 cells.
-/
import Derived.Test.YtinbankkpbdlbaaSec
namespace Go.Proofs.Ytinbankkpbdlbaa
open Go.RowKit Go.Shelf
attribute [local go_sem] Oper.semAt_some

/-- OwnR with a base of one's own. -/
def OwnS (w : World) (base : Nat) (v : Value) (l : List (Int × Int)) : Prop := w.ownsRow base 54 2 v l.length (flatR l) ∧ (v = .slice none 0 0 ↔ l = [])
set_option maxRecDepth 100000 in
set_option maxHeartbeats 4000000 in
theorem csecrets_ct (sv : Value) (d : List (Int × Bool)) (w : World) (hr : Rd w sv d) (hlen : d.length ≤ 100000) :
    Calls Try.prog 22 #[sv] w (SecP d w) := by
  obtain ⟨sa, cap, rfl, hcap, hm, hc⟩ := hr
  have hr : Rd w (.slice sa d.length cap) d := ⟨sa, cap, rfl, hcap, hm, hc⟩
  have Hr := Lib.hid hr
  have hdg : ∀ b off c, Value.slice sa d.length cap = .slice (some ⟨b, off, none⟩) d.length c → d ≠ [] → b ≠ w.heap.size := fun b off c e hne => by
    rcases hc with h2 | ⟨b2, off2, h3, h4, _⟩
    · exact absurd h2 hne
    · injection e with e4 e5 e6
      rw [h3] at e4
      injection e4 with e4
      injection e4 with e4
      omega
  have Hdg := Lib.hid hdg
  clear hc hr hdg hcap hm
  obtain ⟨i0, hi, hz0, hz1, hz2⟩ := info_parts info_range
  refine (callsIn_wide (n := 5)).1 ?_
  refine callsIn_of_wp_marks Try.func22 rfl trivial ?_ rfl
  simp only [Try.ntmps22, List.size_toArray, List.length_cons, List.length_nil, Nat.reduceAdd, Nat.reduceSub, Array.replicate_succ, Array.replicate_zero, List.push_toArray, List.append_toArray, List.nil_append, List.cons_append]
  refine wpIn_wide.2 ?_
  go_wp2_with fail
  refine (secrets_ct _ _ _ _).mono ?_
  rintro e w4 ⟨rfl, hw4⟩
  have bO0 := Boxed.new w 22 (.slice none 0 0)
  have hb1 : Below (w.alloc (.cells #[.slice none 0 0] 22)).heap.size (w.alloc (.cells #[.slice none 0 0] 22)) w4 := by rw [← hw4]; exact (by repeat' (first | exact Below.refl _ _ | (refine Below.setCell ?_ (by first | (simp; done) | (simp; omega) | omega) _) | (refine Below.drew ?_) | (refine Below.drewN ?_ _) | (refine Below.alloc ?_ (by first | (simp; done) | (simp; omega) | omega) _)))
  have hb4 : Below w.heap.size w w4 := by rw [← hw4]; exact (by repeat' (first | exact Below.refl _ _ | (refine Below.setCell ?_ (by first | (simp; done) | (simp; omega) | omega) _) | (refine Below.drew ?_) | (refine Below.drewN ?_ _) | (refine Below.alloc ?_ (by first | (simp; done) | (simp; omega) | omega) _)))
  have bO : Boxed w4 w.heap.size 22 (.slice none 0 0) := by rw [← hw4]; exact bO0.alloc _
  have cs4 : w4.cell? ⟨w.heap.size + 1, 0, none⟩ = some (.slice sa d.length cap) := by rw [← hw4]; exact (by simp [go_sem])
  have hl4 : w4.heap.size = w.heap.size + 2 := by rw [← hw4]; simp
  clear hw4 bO0
  have hl4' : (w.alloc (.cells #[.slice none 0 0] 22)).heap.size = w.heap.size + 1 := by simp
  rw [hl4']
  go_wp2_with fail
  refine (wpIn_wide (n := 5)).1 ?_
  have hw0 : w.heap.size ≤ w4.heap.size := by omega
  refine wpIn_rangeFunc_ownH rfl (by omega) (gf := 59) (lb := #[.pointer (some ⟨w.heap.size + 1, 0, none⟩)]) rfl trivial (enters_of Try.func59 (by kernel_rfl) rfl)
    (secrets_stops 4 (by omega) (w.heap.size + 1) w.heap.size w4 _ d w4 (by omega) cs4 (by omega) (Hr.out.below hb4) Hdg.out hlen (Below.refl _ _))
    Keep.trans (keep_b (Nat.le_refl _)) (Below.refl _ _) (fun _ => rfl)
    (fun pre W => (∃ v, Boxed W w.heap.size 22 v ∧ W.ownsRow w4.heap.size 54 2 v pre.length (flatR pre) ∧ (v = .slice none 0 0 ↔ pre = [])) ∧ (Below w.heap.size w W ∧ w4.heap.size ≤ W.heap.size))
    (fun _ _ _ => False)
    (OwnFrom.and (Go.Own.from (holdsRow_own w4.heap.size w.heap.size 22 54 2 (fun pre => pre.length) (fun pre => flatR pre) (fun pre v => v = .slice none 0 0 ↔ pre = [])) _) (OwnFrom.and (ownFrom_below (Nat.le_refl _) hb4.size) (sizeFrom _ _)))
    (fun _ _ _ _ _ hs _ _ => hs)
    ⟨⟨_, bO, World.ownsRow_nil _ _ _ _, by simp⟩, hb4, Nat.le_refl _⟩
    (fun x a' W => ∃ Bx, w.heap.size < Bx ∧ BoxR W Bx x ∧ a' = { tmps := #[.slice sa d.length cap, undef, .slice none 0 0, .pointer (some ⟨w.heap.size, 0, none⟩), .pointer (some ⟨Bx, 0, none⟩), .slice sa d.length cap, .func (.func 59) #[] #[.pointer (some ⟨w.heap.size + 1, 0, none⟩)], .agg #[.int .i64 x.1, .int .i64 x.2], undef, undef, undef, undef, undef], defers := [] })
    (fun x a' _ X Y row hs hg hr => by obtain ⟨Bx, h1, h2, h3⟩ := hs; exact ⟨Bx, h1, block_own Bx (fun (_ : Unit) => Obj.cells #[.int .i64 x.1, .int .i64 x.2] 54 (0, 0)) (fun _ => rfl) () X Y row h2 hg (fun r e => (hr r e).2), h3⟩)
    ?assign ?body ?done ?stop
  case assign =>
    rintro l pre x W K ⟨⟨v, hv, hrow, hnil⟩, hB, hsz⟩ hK
    have hal : Below W.heap.size W (W.alloc (.cells #[.int .i64 x.1, .int .i64 x.2] 54)) := (by repeat' (first | exact Below.refl _ _ | (refine Below.setCell ?_ (by first | (simp; done) | (simp; omega) | omega) _) | (refine Below.drew ?_) | (refine Below.drewN ?_ _) | (refine Below.alloc ?_ (by first | (simp; done) | (simp; omega) | omega) _)))
    gi_wp2
    exact hK _ _ ((KeepsOthers.alloc _ _).from _) ((Keep.refl _ _ W).below hal hsz) ⟨⟨v, hv.alloc _, hrow.alloc _, hnil⟩, hB.next hal, by simp; omega⟩ ⟨W.heap.size, hv.lt, BoxR.new W x, rfl⟩
  case body =>
    rintro l pre x a' W hl _ ⟨⟨v, hv, hrow, hnil⟩, hB, hsz⟩ ⟨Bx, hBx, bX, rfl⟩ hlt
    have hc := hv.cell
    obtain ⟨cx1, cx2⟩ := bX.cell
    have hrw := ownsRow_weak hrow hw0
    gi_wp2_with (gi_at_builtin; refine wpListIn_append_own _ rfl _ _ 22 rfl w4.heap.size 54 i0 (.agg #[.int .i64 0, .int .i64 0]) 2 16 Try.underlying22 hi hz0 hz1 hz2 rfl (by decide) _ _ _ rfl (hrow.alloc _) ⟨W.heap.size, 0, none⟩ 1 1 [.int .i64 x.1, .int .i64 x.2] rfl rfl (cell_two_new _ _ _ _) (by simp [Value.oneCell']) (by unfold maxLen; omega) (by omega) (by simp; omega) ?_; intro v' w1 hown' hgrow _; obtain ⟨g', cap', rfl⟩ := ownsRow_succ hown'; obtain ⟨hv1, hv2, hr2, hk2, hb2⟩ := hv.appended (by decide) hrw hB.size (Nat.le_refl _) (ownsRow_weak hown' hw0) hgrow; have hkk := keep_appended (B := w.heap.size) (v' := .slice (some ⟨g', 0, none⟩) (pre.length + 1) cap') hrow hsz hgrow; have hr3 := hown'.kept (grownBy_setCell' w1 w.heap.size (.slice (some ⟨g', 0, none⟩) (pre.length + 1) cap')) (.inr (hv1.not_row (by decide) hown').symm); have hc1 := hv1.cell; have hf1 := hv1.frozen)
    exact ⟨hk2.from _, hkk, ⟨_, hv2, by rw [flatR_append, List.length_append]; exact hr3, by simp⟩, hB.trans hb2, Nat.le_trans hsz hkk.1⟩
  case done =>
    rintro D ys W hD hS' ⟨⟨v, hv, hrow, hnil⟩, hB, hsz⟩ hK
    have hc := hv.cell
    go_wp2
    refine ⟨by simp, .inl ⟨_, _, rfl, run_takeDeferred hK, ?_⟩⟩
    exact ⟨_, results_tmp rfl _ _ _, v, ys, rfl, (show OwnR _ w.heap.size v ys from ⟨ownsRow_putObj (ownsRow_weak hrow hw0) _ hK rfl, hnil⟩).rg, hS', hB.trans (belowK_b (w := w) (Nat.le_refl _) W D _ _ (by omega) hK rfl rfl)⟩
  case stop =>
    rintro D c pre W _ _ h _
    exact h.elim
end Go.Proofs.Ytinbankkpbdlbaa
