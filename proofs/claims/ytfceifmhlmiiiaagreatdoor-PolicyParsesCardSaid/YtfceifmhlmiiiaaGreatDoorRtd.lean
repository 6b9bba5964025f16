/-
  The document's plain answer for ranges tidied: all places up to the last one are marked. Over this seat's translation; of at most 100000 ranges that may be by themselves.
-/
import Derived.Test.YtfceifmhlmiiiaaGreatDoorRef
namespace Go.Proofs.YtfceifmhlmiiiaaGreatDoor
open Go.RowKit

theorem ret_i64 {a b : Int} (h : a = b) : (Value.int .i64 a) = .int .i64 b := by rw [h]
/-- What Tidy of the document hands back. -/
def RTidyP (l : List (Int × Int)) (w : World) (e : Ending) (w' : World) : Prop := ∃ v T, e = .returned v ∧ Rg w' v T ∧ Tidied l T ∧ Below w.heap.size w w'
theorem tidied_marks {l T : List (Int × Int)} {t : Nat} (hw : l.all wholeB = true) (ht : t ≤ 65536) (hb : ∀ r ∈ l, r.2 < t) (hM : Marked (fun j => inB l j) T t) : Tidied l T := by
  refine ⟨hM.may ht, fun x => ?_⟩
  rw [hM.same]
  by_cases e : 0 ≤ x ∧ x < (t : Int)
  · rw [decide_eq_true e, Bool.true_and, show ((x.toNat : Nat) : Int) = x by omega]
  · rw [decide_eq_false e, Bool.false_and]
    symm
    rw [Bool.eq_false_iff]
    intro c
    obtain ⟨r, hr, h1, h2⟩ := (inB_iff l x).1 c
    have h3 := (wholeB_iff r).1 (List.all_eq_true.1 hw r hr)
    have h4 := hb r hr
    omega
theorem top_next (l : List (Int × Int)) (k t : Nat) (x y : Int) (h : k < l.length) (hn : nthR l k = (x, y)) (ht : ∀ r ∈ l.take k, r.2 < t) (hy : 0 ≤ y) : ∀ r ∈ l.take (k + 1), r.2 < ((max (t : Int) (y + 1)).toNat : Nat) := fun r hr => by
  rw [take_snoc' l k (0, 0) h, show l.getD k (0, 0) = (x, y) from hn] at hr
  rcases List.mem_append.1 hr with hr | hr
  · have := ht r hr; omega
  · rw [List.mem_singleton.1 hr]; show y < _; omega
set_option maxRecDepth 100000 in
set_option maxHeartbeats 8000000 in
theorem rtidy_ct (sv : Value) (l : List (Int × Int)) (w : World) (hr : Rg w sv l) (hw : l.all wholeB = true) (hN : l.length ≤ 100000) :
    Calls Tryz.prog 13 #[sv] w (RTidyP l w) := by
  obtain ⟨i0, hi, hz0, hz1, hz2⟩ := info_parts info_bool
  obtain ⟨sa, cap, rfl, hcap, hm, hr⟩ := hr
  unfold maxLen at hm
  have Hc := Lib.hid hr
  have Hw := Lib.hid hw
  clear hr hw
  go_enter Tryz.func13, Tryz.ntmps13
  go_wp2
  go_loopw [3, 4] (fun top i wr => ∃ (k t : Nat), k ≤ l.length ∧ i = .int .i64 k ∧ top = .int .i64 t ∧ t ≤ 65536 ∧ Hid (∀ r ∈ l.take k, r.2 < t) ∧ wr = w) (fun _ i _ => l.length - (intOf i).toNat)
  case atStart => exact ⟨0, 0, Nat.zero_le _, rfl, rfl, by omega, (fun r hr => by simp at hr), rfl⟩
  case round =>
    obtain ⟨k, t, hk, rfl, rfl, ht, hb, rfl⟩ := hrel
    by_cases hlt : k < l.length
    · rcases Hc.out with rfl | ⟨b0, off, rfl, hb0, hc⟩
      · simp at hlt
      obtain ⟨h1, h2⟩ := hc k hlt
      clear hc
      obtain ⟨x, y, hxy⟩ : ∃ x y, nthR l k = (x, y) := ⟨_, _, rfl⟩
      have hwx := (wholeB_iff (x, y)).1 (by rw [← hxy]; exact List.all_eq_true.1 Hw.out _ (mem_getD l k (0, 0) hlt))
      dsimp only at hwx
      have Hn := Lib.hid (top_next l k t x y hlt hxy hb.out (by omega))
      rw [hxy] at h1 h2
      dsimp only at h1 h2
      obtain ⟨x0, x1, x2⟩ := hwx
      clear hxy hb Hc
      go_wp2
      go_roundw
      case rel => exact ⟨k + 1, (max (t : Int) (y + 1)).toNat, by omega, by go_num, ret_i64 (by omega), by omega, Hn, trivial⟩
      case measure => simp [intOf]; omega
    · have hb := hb.out
      rw [List.take_of_length_le (by omega)] at hb
      have Hb := Lib.hid hb
      clear hb
      obtain rfl : k = l.length := by omega
      have hnm : decide (l.length < l.length) = false := decide_eq_false (by omega)
      go_wp2_with (at_make; refine wpList_make_full _ rfl _ _ _ rfl wr.heap.size 4 i0 (.bool false) 1 Tryz.underlying71 hi hz0 hz1 .i64 .i64 _ _ t rfl rfl rfl rfl (by rw [hz2]; omega) (by unfold maxLen; omega) (Nat.le_refl _) ?_; intro w2 hown hgrow)
      rw [mkB_zero] at hown
      have hB2 : Below wr.heap.size wr w2 := ⟨hgrow.os, hgrow.tape, hgrow.output, hgrow.size, fun k hk => hgrow.block k hk (by simp)⟩
      obtain ⟨g, hg⟩ : ∃ g, g = wr.heap.size := ⟨_, rfl⟩
      have hgw : wr.heap.size ≤ g := by omega
      have hO : OwnB w2 wr.heap.size g t (fun j => inB (l.take 0) j) := by rw [hg]; exact OwnB.congr (f := fun _ => false) hown (fun j _ => by simp [inB])
      clear hown hgrow
      rw [show (Value.slice (some ⟨wr.heap.size, 0, none⟩) t t) = .slice (some ⟨g, 0, none⟩) t t by rw [hg]]
      clear hg
      obtain ⟨wo, rfl⟩ : ∃ wo : World, wo = wr := ⟨_, rfl⟩
      go_loopw [6, 7] (fun i _ wr => ∃ (k : Nat), k ≤ l.length ∧ i = .int .i64 k ∧ OwnB wr wo.heap.size g t (fun j => inB (l.take k) j) ∧ Below wo.heap.size wo wr) (fun i _ _ => l.length - (intOf i).toNat)
      case atStart => exact ⟨0, Nat.zero_le _, rfl, hO, hB2⟩
      case round =>
        clear hO hB2 hnm
        obtain ⟨k, hk, rfl, hO, hB⟩ := hrel
        by_cases hlt : k < l.length
        · rcases Hc.out with rfl | ⟨b0, off, rfl, hb0, hc⟩
          · simp at hlt
          obtain ⟨h1, h2⟩ := hc k hlt
          clear hc
          obtain ⟨x, y, hxy⟩ : ∃ x y, nthR l k = (x, y) := ⟨_, _, rfl⟩
          have hwx := (wholeB_iff (x, y)).1 (by rw [← hxy]; exact List.all_eq_true.1 Hw.out _ (mem_getD l k (0, 0) hlt))
          have hyt := Hb.out (x, y) (by rw [← hxy]; exact mem_getD l k (0, 0) hlt)
          dsimp only at hwx hyt
          obtain ⟨x0, x1, x2⟩ := hwx
          obtain ⟨a, rfl⟩ := Int.eq_ofNat_of_zero_le x0
          obtain ⟨b, rfl⟩ := Int.eq_ofNat_of_zero_le (Int.le_trans x0 x1)
          have Hts := Lib.hid (show l.take (k + 1) = l.take k ++ [((a : Int), (b : Int))] by rw [take_snoc' l k (0, 0) hlt, show l.getD k (0, 0) = _ from hxy])
          rw [hxy] at h1 h2
          dsimp only at h1 h2
          have H1 := Lib.hid h1
          have H2 := Lib.hid h2
          rw [← hB.cell hb0] at h1 h2
          clear hxy Hc Hw Hb
          obtain ⟨wi, rfl⟩ : ∃ wi : World, wi = wr := ⟨_, rfl⟩
          go_wp2
          go_loopw [7] (fun i wr => ∃ (q : Nat), a ≤ q ∧ q ≤ b + 1 ∧ i = .int .i64 q ∧ OwnB wr wo.heap.size g t (fun j => inB (l.take k) j || (decide (a ≤ j) && decide (j < q))) ∧ Below wo.heap.size wo wr) (fun i _ => b + 1 - (intOf i).toNat)
          case atStart => exact ⟨a, Nat.le_refl _, by omega, rfl, hO.congr (fun j _ => by rw [show (decide (a ≤ j) && decide (j < a)) = false by simp, Bool.or_false]), hB⟩
          case round =>
            clear h1 h2 hO hB
            obtain ⟨q, haq, hqb, rfl, hO, hB⟩ := hrel
            have h1 := H1.out
            have h2 := H2.out
            rw [← hB.cell hb0] at h1 h2
            by_cases hle : q ≤ b
            · obtain ⟨c1, f1⟩ := hO.cellAt q (by omega)
              have hle' : decide (q ≤ b) = true := decide_eq_true hle
              have Hst := Lib.hid ((hO.stored q true).congr (f' := fun j => inB (l.take k) j || (decide (a ≤ j) && decide (j < q + 1))) (fun j _ => by
                by_cases e : j = q
                · subst e; rw [if_pos rfl]; simp [haq]
                · rw [if_neg e, show decide (j < q + 1) = decide (j < q) from decide_eq_decide.2 (by omega)]))
              have HB := Lib.hid (hB.setCell (p := ⟨g, q, none⟩) hgw (.bool true))
              have hqt : q < t := by omega
              clear hO
              generalize (inB (l.take k) q || (decide (a ≤ q) && decide (q < q))) = old at *
              go_wp2
              go_roundw
              case rel => exact ⟨q + 1, by omega, by omega, by go_num, Hst.out, HB.out⟩
              case measure => simp [intOf]; omega
            · obtain rfl : q = b + 1 := by omega
              have hle' : decide (b + 1 ≤ b) = false := decide_eq_false (by omega)
              have Hst := Lib.hid (hO.congr (f' := fun j => inB (l.take (k + 1)) j) (fun j _ => by
                rw [Hts.out, inB_append, inB_one]
                congr 1
                unfold inR
                congr 1 <;> (apply decide_eq_decide.2; omega)))
              clear hO hqb hle' Hts
              have hlo : decide ((b : Int) + 1 ≤ (b : Int)) = false := decide_eq_false (by omega)
              go_wp2
              go_roundw
              case rel => exact ⟨k + 1, by omega, by go_num, Hst.out, hB⟩
              case measure => simp [intOf]; omega
        · obtain rfl : k = l.length := by omega
          have hnm : decide (l.length < l.length) = false := decide_eq_false (by omega)
          have hrm := hO.rm (by unfold maxLen; omega)
          have Hsc := Lib.hid (stretch_ct _ _ wr hrm (by rw [List.length_map, List.length_range]; omega))
          clear hO hrm Hc
          go_wp2_with fail
          refine Hsc.out.mono ?_
          rintro e w3 ⟨v, T, rfl, hv, hM, hB3⟩
          have Hv := Lib.hid hv
          rw [List.length_map, List.length_range] at hM
          have HM := Lib.hid (tidied_marks Hw.out ht Hb.out (hM.congr (m' := fun j => inB l j) (fun j hj => by rw [range_getD _ _ j hj, List.take_length])))
          clear hv hM Hsc
          go_wp2
          go_ret
          exact ⟨v, T, rfl, Hv.out, HM.out, hB.next hB3⟩
end Go.Proofs.YtfceifmhlmiiiaaGreatDoor
