/-
  The walk of SpriteFinds, whole. Over this seat's translation; no condition. (Written by gen_sp.py.)
-/
import Derived.Test.YtphnpahjofacfaaSld
namespace Go.Proofs.Ytphnpahjofacfaa
open Go.RowKit Go.Sort
set_option linter.unusedSimpArgs false
set_option linter.unusedVariables false
set_option maxRecDepth 20000

attribute [local irreducible] wpList
set_option maxHeartbeats 8000000 in
theorem spriteFinds_wk (sv : Value) (l : List (Int × Bool)) (qi ql : Int) (qt qb : Bool) (lo : BitVec 8) (ls : Bool) (hi : BitVec 8) (hs : Bool) (qx : Int) (w : World) (hr : Rd w sv l) (hb : bytS l) (hno : (l.take 257).length = 256 → lineB ql = false) : Calls Try.prog 5 #[sv, .agg (saC ⟨qi, ql, qt, qb, lo, ls, hi, hs, qx⟩)] w fun e w' => e = .returned (.bool true) ∧ Below w.heap.size w w' := by
  have QW := Lib.hid (fun wr => awake15_ct wr)
  have QF := fun wr h => few15_cut sv l wr h
  have HR := Lib.hid hr
  have hr2 := hr.cut15
  have hb2 := bytS_take hb 257
  generalize l.take 257 = l2 at *
  generalize cutV sv = v2 at *
  have H := Mem.start w
  have M1 : True := trivial
  by_cases hn : l2.length = 256
  · obtain ⟨b, off, cap, rfl, hL, hc, hm⟩ := hr2.ls hn
    have QF := Lib.hid QF
    clear hr2
    have hl2 : lineB ql = false := hno hn
    have Q1 := fun wr => sfind_no2 (some ⟨b, off, none⟩) cap ql qt hl2 wr
    go_enter Try.func5, Try.ntmps5
    go_wp2_with (first | (clear M1; refine wpList_mboxA rfl _ _ rfl H (saC ⟨qi, ql, qt, qb, lo, ls, hi, hs, qx⟩) rfl ?_; clear H; intro Rq w1 _ H) | (go_at_call 8; (with_reducible refine (QF.out _ (HR.out.below H.toBelow)).mono ?_); rintro e w2 ⟨rfl, hB⟩; replace H := H.next hB; clear hB) | (go_at_call 9; (with_reducible refine (Q1 _).mono ?_); rintro e w2 ⟨rfl, hB⟩; replace H := H.next hB; clear hB) | (refine gate_load _ _ rfl ?_; refine wpList_mload1 rfl 3 _ rfl _ _ rfl 0 H _ (.int .i64 _) rfl rfl (by decide +kernel) ?_) | (refine gate_load _ _ rfl ?_; refine wpList_mload1 rfl 4 _ rfl _ _ rfl 0 H _ (.bool _) rfl rfl (by decide +kernel) ?_) | (go_at_call 16; (with_reducible refine (QW.out _).mono ?_); rintro e w2 ⟨rfl, hB⟩; replace H := H.next hB; clear hB) | fail)
    go_ret
    exact ⟨rfl, H.toBelow⟩
  · obtain ⟨a, cap, rfl⟩ := hr2.sh
    have QF := Lib.hid QF
    have Q1 := fun wr => sfind_no1 a l2.length cap ql qt hn wr
    go_enter Try.func5, Try.ntmps5
    go_wp2_with (first | (clear M1; refine wpList_mboxA rfl _ _ rfl H (saC ⟨qi, ql, qt, qb, lo, ls, hi, hs, qx⟩) rfl ?_; clear H; intro Rq w1 _ H) | (go_at_call 8; (with_reducible refine (QF.out _ (HR.out.below H.toBelow)).mono ?_); rintro e w2 ⟨rfl, hB⟩; replace H := H.next hB; clear hB) | (go_at_call 9; (with_reducible refine (Q1 _).mono ?_); rintro e w2 ⟨rfl, hB⟩; replace H := H.next hB; clear hB) | (refine gate_load _ _ rfl ?_; refine wpList_mload1 rfl 3 _ rfl _ _ rfl 0 H _ (.int .i64 _) rfl rfl (by decide +kernel) ?_) | (refine gate_load _ _ rfl ?_; refine wpList_mload1 rfl 4 _ rfl _ _ rfl 0 H _ (.bool _) rfl rfl (by decide +kernel) ?_) | (go_at_call 16; (with_reducible refine (QW.out _).mono ?_); rintro e w2 ⟨rfl, hB⟩; replace H := H.next hB; clear hB) | fail)
    go_ret
    exact ⟨rfl, H.toBelow⟩
theorem spriteFinds_walk (sv : Value) (l : List (Int × Bool)) (q : Sa) (w : World) (hr : Rd w sv l) (hb : bytS l) : Calls Try.prog 5 #[sv, .agg (saC q)] w fun e w' => e = .returned (.bool true) ∧ Below w.heap.size w w' := by
  obtain ⟨qi, ql, qt, qb, lo, ls, hi, hs, qx⟩ := q
  by_cases hg : (l.take 257).length = 256 ∧ lineB ql = true
  · obtain ⟨hn, hl⟩ := hg
    simp only [lineB, Bool.and_eq_true, decide_eq_true_eq] at hl
    obtain ⟨l0, l1⟩ := hl
    by_cases h8 : 8 < (onL (l.take 257) ql qt).length
    · cases qt
      · exact finds_false_more sv l qi ql qb lo ls hi hs qx w hr hb hn l0 l1 h8
      · exact finds_true_more sv l qi ql qb lo ls hi hs qx w hr hb hn l0 l1 h8
    · cases qt
      · exact finds_false_all sv l qi ql qb lo ls hi hs qx w hr hb hn l0 l1 (by omega)
      · exact finds_true_all sv l qi ql qb lo ls hi hs qx w hr hb hn l0 l1 (by omega)
  · refine spriteFinds_wk sv l qi ql qt qb lo ls hi hs qx w hr hb fun hn => ?_
    cases h : lineB ql
    · rfl
    · exact absurd ⟨hn, h⟩ hg
end Go.Proofs.Ytphnpahjofacfaa
