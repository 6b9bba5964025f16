/-
  The iterator that joins ranges that rise, and package cells' Tidy: what comes back are the ranges that may be, with just the same places. Over this seat's translation; of at most 100000 ranges.
-/
import Derived.Test.YtfceifmhlmiiiaaGreatDoorSrt
import Derived.Sort.QuietTacIn
import Derived.BigRegionIn
namespace Go.Proofs.YtfceifmhlmiiiaaGreatDoor
open Go.RowKit Go.Shelf
attribute [local go_sem] Oper.semAt_some

theorem abides_below {B : Nat} {β : Type} {J : β → World → Prop} (h : AbidesFrom B J) {s : β} {W W' : World} (hb : Below W.heap.size W W') (hs : J s W) : J s W' :=
  h s W W' none hs ⟨hb.os, hb.tape, hb.output, hb.size, fun k hk _ => hb.block k hk⟩ (fun r e => by cases e)
theorem BoxR.lt {W : World} {B : Nat} {x : Int × Int} (h : BoxR W B x) : B < W.heap.size := (Array.getElem?_eq_some_iff.1 h).1
theorem BoxR.free {W : World} {B : Nat} {x : Int × Int} (h : BoxR W B x) (i : Nat) : W.frozen? ⟨B, i, none⟩ = false := by simp [World.frozen?, show W.heap[B]? = _ from h]
theorem BoxR.set1 {W : World} {B : Nat} {x : Int × Int} (y : Int) (h : BoxR W B x) : BoxR (W.setCell ⟨B, 1, none⟩ (.int .i64 y)) B (x.1, y) := by
  obtain ⟨hlt, hk⟩ := Array.getElem?_eq_some_iff.1 h
  show (W.heap.modify B _)[B]? = _
  rw [Array.getElem?_eq_getElem (by rw [Array.size_modify]; exact hlt), Array.getElem_modify_self, hk]
  rfl
theorem BoxR.drewN {W : World} {B : Nat} {x : Int × Int} (h : BoxR W B x) (n : Nat) : BoxR (W.drewN n) B x := h

theorem Rg.slice {w : World} {v : Value} {l : List (Int × Int)} (h : Rg w v l) : ∃ a cap, v = .slice a l.length cap := by
  obtain ⟨a, cap, hv, _⟩ := h
  exact ⟨a, cap, hv⟩

set_option maxRecDepth 100000 in
set_option maxHeartbeats 4000000 in
theorem joined1_in (n : Nat) (hn : 1 ≤ n) (l Bs : Nat) (wA : World) (sv : Value) (d : List (Int × Int)) (J Jx : List (Int × Int) → World → Prop)
    (hY : ∀ pre x W, J pre W → pre.length < d.length → YieldAt Fence.wide (n - 1) Tryz.prog l (encR x) W fun e W' =>
      (e = .returned (.bool true) ∧ J (pre ++ [x]) W' ∧ Below wA.heap.size W W') ∨ (e = .returned (.bool false) ∧ Jx (pre ++ [x]) W'))
    (hJ : ∀ s W W', Below W.heap.size W W' → J s W → J s W') (W : World) (hBl : Bs < wA.heap.size) (hBs : wA.cell? ⟨Bs, 0, none⟩ = some sv) (hr : Rg wA sv d) (hbA : Below wA.heap.size wA W) (h0 : J [] W)
    (hw : d.all wholeB = true) (hsd : Sorted1 d) :
    CallsIn Fence.wide n Tryz.prog 46 #[.func (.yield l) #[] #[], .pointer (some ⟨Bs, 0, none⟩)] W fun e W' => (∃ v, e = .returned v) ∧
      ((∃ ys, Tidied d ys ∧ J ys W') ∨ (∃ pre, True ∧ Jx pre W')) := by
  obtain ⟨sa, cap, rfl, hcap, hm, hc⟩ := hr
  unfold maxLen at hm
  have Hc := Lib.hid hc
  have HJ := Lib.hid hJ
  have Hs := Lib.hid hBs
  have Hw := Lib.hid hw
  have Hsd := Lib.hid hsd
  clear hc hJ hBs hw hsd
  refine callsIn_of_wp Tryz.func46 rfl trivial ?_ rfl
  simp only [Tryz.ntmps46, List.size_toArray, List.length_cons, List.length_nil, Nat.reduceAdd, Nat.reduceSub, Array.replicate_succ, Array.replicate_zero, List.push_toArray, List.append_toArray, List.nil_append, List.cons_append]
  gi_wp2
  gi_loopw [3] (fun i wr => ∃ (k : Nat) (pre : List (Int × Int)), k ≤ d.length ∧ i = .int .i64 k ∧ Hid (Joins d pre k) ∧ J pre wr ∧ Below wA.heap.size wA wr)
    (fun i _ => d.length - (intOf i).toNat)
  case atStart => exact ⟨0, [], Nat.zero_le _, rfl, Joins.start d, h0, hbA⟩
  case round =>
    obtain ⟨k, pre, hk, rfl, hj, hJs, hnx⟩ := hrel
    obtain ⟨wo, rfl⟩ : ∃ wo : World, wo = wr := ⟨_, rfl⟩
    have hcs : wo.cell? ⟨Bs, 0, none⟩ = some (.slice sa d.length cap) := (hnx.cell (p := ⟨Bs, 0, none⟩) hBl).trans Hs.out
    by_cases hlt : k < d.length
    · rcases Hc.out with hz | ⟨b, off, rfl, hb, hc⟩
      · rw [hz] at hlt; simp at hlt
      obtain ⟨h1, h2⟩ := hc k hlt
      have Hc' := Lib.hid hc
      clear hc
      rw [← hnx.cell hb] at h1 h2
      have hjo := Lib.hid (hj.out.next hlt Hw.out Hsd.out)
      obtain ⟨x, hx⟩ : ∃ x, nthR d k = x := ⟨_, rfl⟩
      rw [hx] at h1 h2 hjo
      clear hx
      have hBl' : Bs < wo.heap.size := Nat.lt_of_lt_of_le hBl hnx.size
      have hb' : b < wo.heap.size := Nat.lt_of_lt_of_le hb hnx.size
      gi_wp2
      gi_loopw [3] (fun i wx => ∃ (m : Nat) (one : Int × Int), m ≤ d.length ∧ k + 1 ≤ m ∧ i = .int .i64 m ∧ Hid (Joining d pre one m) ∧ BoxR wx wo.heap.size one ∧ Below wo.heap.size wo wx)
        (fun i _ => d.length - (intOf i).toNat)
      case atStart => exact ⟨k + 1, x, by omega, Nat.le_refl _, by simp, hjo, BoxR.new _ _, (by repeat' (first | exact Below.refl _ _ | (refine Below.setCell ?_ (by first | (simp; done) | (simp; omega) | omega) _) | (refine Below.drew ?_) | (refine Below.drewN ?_ _) | (refine Below.alloc ?_ (by first | (simp; done) | (simp; omega) | omega) _)))⟩
      case round =>
        obtain ⟨m, one, hm1, hkm, rfl, hjg, hbx, hgx⟩ := hrel
        obtain ⟨o1, o2⟩ := hbx.cell
        have hfz := hbx.free 1
        have hcs2 : wr.cell? ⟨Bs, 0, none⟩ = some (.slice (some ⟨b, off, none⟩) d.length cap) := (hgx.cell (p := ⟨Bs, 0, none⟩) hBl').trans hcs
        have hwb := (wholeB_iff one).1 hjg.out.whole
        obtain ⟨t0, t1, t2⟩ := hwb
        by_cases hlm : m < d.length
        · obtain ⟨g1, g2⟩ := Hc'.out m hlm
          rw [← hnx.cell hb, ← hgx.cell hb'] at g1 g2
          obtain ⟨y, hy⟩ : ∃ y, nthR d m = y := ⟨_, rfl⟩
          have hst := hjg.out.step hlm Hw.out Hsd.out
          have hdn := hjg.out.done
          have hwy := (wholeB_iff y).1 (by rw [← hy]; exact List.all_eq_true.1 Hw.out _ (mem_getD d m (0, 0) hlm))
          obtain ⟨y0, y1, y2⟩ := hwy
          rw [hy] at g1 g2 hst hdn
          clear hy
          by_cases hle : y.1 ≤ one.2 + 1
          · have Hst := Lib.hid (hst hle)
            clear hst hdn
            gi_wp2
            gi_quiet (fail)
            gi_wp2
            gi_region
            gi_wp2
            go_roundw
            case rel => exact ⟨m + 1, (one.1, max one.2 y.2), by omega, by omega, by simp, Hst, (show BoxR (wr.drewN _) _ _ from hbx).set1 _, (below_drewN hgx _).setCell (p := ⟨wo.heap.size, 1, none⟩) (Nat.le_refl _) _⟩
            case measure => simp [intOf]; omega
          · have hnle : decide (y.1 ≤ one.2 + 1) = false := by simpa using hle
            have Hdn := Lib.hid (hdn (fun _ => by omega))
            have hfew : pre.length < d.length := by have := hjg.out.few; omega
            clear hst hdn hle
            gi_wp2
            gi_quiet (fail)
            have hJq := HJ.out pre wo (wr.drewN nq) (below_drewN hgx nq) hJs
            have hnq := hnx.next (below_drewN hgx nq)
            obtain ⟨fn, tmps, assign, body, hy, hR⟩ := hY pre one _ hJq hfew
            dsimp only [encR] at hy
            gi_wp2
            refine hR.mono ?_
            rintro e W3 (⟨rfl, hJ3, hk3⟩ | ⟨rfl, hJx3⟩)
            · gi_wp2
              go_roundw
              case rel => exact ⟨m, pre ++ [one], hm1, rfl, Hdn, hJ3, hnq.trans hk3⟩
              case measure => simp [intOf]; omega
            · gi_wp2
              refine bodyPost_ret (results_none rfl _ _ _) rfl ?_
              exact ⟨⟨_, rfl⟩, .inr ⟨_, trivial, hJx3⟩⟩
        · have hnm : decide (m < d.length) = false := by simpa using hlm
          have hdn := hjg.out.done
          have Hdn := Lib.hid (hdn (fun h => absurd h hlm))
          have hfew : pre.length < d.length := by have := hjg.out.few; omega
          clear hdn
          gi_wp2
          gi_quiet (fail)
          have hJq := HJ.out pre wo (wr.drewN nq) (below_drewN hgx nq) hJs
          have hnq := hnx.next (below_drewN hgx nq)
          obtain ⟨fn, tmps, assign, body, hy, hR⟩ := hY pre one _ hJq hfew
          dsimp only [encR] at hy
          gi_wp2
          refine hR.mono ?_
          rintro e W3 (⟨rfl, hJ3, hk3⟩ | ⟨rfl, hJx3⟩)
          · gi_wp2
            go_roundw
            case rel => exact ⟨m, pre ++ [one], hm1, rfl, Hdn, hJ3, hnq.trans hk3⟩
            case measure => simp [intOf]; omega
          · gi_wp2
            refine bodyPost_ret (results_none rfl _ _ _) rfl ?_
            exact ⟨⟨_, rfl⟩, .inr ⟨_, trivial, hJx3⟩⟩
    · have Hend := Lib.hid (hj.out.end (by omega))
      have hnm : decide (k < d.length) = false := by simpa using hlt
      gi_wp2
      go_end0
      exact ⟨⟨_, rfl⟩, .inl ⟨_, Hend.out, hJs⟩⟩
end Go.Proofs.YtfceifmhlmiiiaaGreatDoor
