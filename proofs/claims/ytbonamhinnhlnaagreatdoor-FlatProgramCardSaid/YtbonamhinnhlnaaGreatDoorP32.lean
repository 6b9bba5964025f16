/-
  Several texts in one: what is read and written by the functions on the way to the statements. Conditions stand in each theorem.
-/
import Derived.Test.YtbonamhinnhlnaaGreatDoorP31
import Derived.Lib.QuietBelow
import Derived.Shelf.Abstract
import Derived.Test.YtbonamhinnhlnaaGreatDoorP30
import Derived.Test.YtbonamhinnhlnaaGreatDoorP01
import Derived.Test.YtbonamhinnhlnaaGreatDoorP02
import Derived.Test.YtbonamhinnhlnaaGreatDoorP25
import Derived.Test.YtbonamhinnhlnaaGreatDoorP10
import Derived.RangeFuncNested
import Derived.RangeFuncBound
import Derived.RangeFuncCalls
import Derived.RangeFuncLeaves
import Derived.RangeFuncBox
import Derived.Shelf.RegionOpen
import Derived.WalkKit
import Derived.OwnWalkIn
import Derived.TacticsInMore
import Derived.LoopNIn
import Derived.LoopIn
import Derived.Maps.AppendAt
import Derived.Sort.QuietTacIn
import Derived.BigRegionIn
namespace Go.Proofs.YtbonamhinnhlnaaGreatDoor
open Go.RowKit

end Go.Proofs.YtbonamhinnhlnaaGreatDoor
namespace Go.Proofs.YtbonamhinnhlnaaGreatDoor
open Go.RowKit

end Go.Proofs.YtbonamhinnhlnaaGreatDoor
namespace Go.Proofs.YtbonamhinnhlnaaGreatDoor
open Go.RowKit

theorem Rd.take {w : World} {b off cap : Nat} {l : List (Int × Bool)} (n : Nat) (hn : n ≤ l.length) (hcap : l.length ≤ cap) (hm : cap ≤ maxLen) (hb : b < w.heap.size)
    (hc : ∀ k, k < l.length → w.cell? ⟨b, off + k * 2, none⟩ = some (.int .u8 (nth l k).1) ∧ w.cell? ⟨b, off + k * 2 + 1, none⟩ = some (.bool (nth l k).2)) : Rd w (.slice (some ⟨b, off, none⟩) n cap) (l.take n) := by
  refine ⟨some ⟨b, off, none⟩, cap, by rw [List.length_take, Nat.min_eq_left hn], by rw [List.length_take]; omega, hm, .inr ⟨b, off, rfl, hb, fun k hk => ?_⟩⟩
  rw [List.length_take] at hk
  have e : nth (l.take n) k = nth l k := by
    unfold nth
    rw [List.getD_eq_getElem?_getD, List.getD_eq_getElem?_getD, List.getElem?_take, if_pos (by omega)]
  rw [e]
  exact hc k (by omega)
theorem Rg.take {w : World} {b off cap : Nat} {l : List (Int × Int)} (n : Nat) (hn : n ≤ l.length) (hcap : l.length ≤ cap) (hm : cap ≤ maxLen) (hb : b < w.heap.size)
    (hc : ∀ k, k < l.length → w.cell? ⟨b, off + k * 2, none⟩ = some (.int .i64 (nthR l k).1) ∧ w.cell? ⟨b, off + k * 2 + 1, none⟩ = some (.int .i64 (nthR l k).2)) : Rg w (.slice (some ⟨b, off, none⟩) n cap) (l.take n) := by
  refine ⟨some ⟨b, off, none⟩, cap, by rw [List.length_take, Nat.min_eq_left hn], by rw [List.length_take]; omega, hm, .inr ⟨b, off, rfl, hb, fun k hk => ?_⟩⟩
  rw [List.length_take] at hk
  have e : nthR (l.take n) k = nthR l k := by
    unfold nthR
    rw [List.getD_eq_getElem?_getD, List.getD_eq_getElem?_getD, List.getElem?_take, if_pos (by omega)]
  rw [e]
  exact hc k (by omega)
set_option maxHeartbeats 400000 in
theorem holds_yes (l : List (Int × Bool)) (sv : Value) (k : Nat) (w : World) (hr : Rd w sv l) (hk : k < l.length) :
    Calls Tryz.prog 53 #[sv, .int .i64 k] w fun e w' => e = .returned (.bool true) ∧ w = w' := by
  obtain ⟨a, cap, rfl, hcap, hn, hr⟩ := hr
  unfold maxLen at hn
  clear hr
  go_enter Tryz.func53, Tryz.ntmps53
  go_wp2
  go_ret
  exact ⟨rfl, rfl⟩
set_option maxHeartbeats 1000000 in
theorem load_yes (l : List (Int × Bool)) (sv : Value) (k : Nat) (w : World) (hr : Rd w sv l) (hk : k < l.length) :
    Calls Tryz.prog 30 #[sv, .int .i64 k] w fun e w' => e = .returned (.tuple #[.agg #[.int .u8 (nth l k).1, .bool (nth l k).2], .int .i64 0]) ∧ Below w.heap.size w w' := by
  have Hh := Lib.hid fun o => holds_yes l sv k (w.alloc o) (hr.below ((Below.refl _ _).alloc (Nat.le_refl _) o)) hk
  obtain ⟨a, cap, rfl, hcap, hn, hr⟩ := hr
  unfold maxLen at hn
  rcases hr with rfl | ⟨b, off, rfl, hb, hc⟩
  · simp at hk
  obtain ⟨h1, h2⟩ := hc k hk
  clear hc
  generalize (nth l k).1 = x at *
  generalize (nth l k).2 = s at *
  have hne : b ≠ w.heap.size := by omega
  go_enter Tryz.func30, Tryz.ntmps30
  go_wp2_with fail
  refine (Hh.out _).mono ?_
  rintro e w1 ⟨rfl, rfl⟩
  go_wp2
  exact bodyPost_ret (v := .tuple #[.agg #[.int .u8 x, .bool s], .int .i64 0]) (by simp [results, Tryz.results30, go_sem]) rfl ⟨rfl, (by repeat' (first | exact Below.refl _ _ | (refine Below.setCell ?_ (by first | (simp; done) | (simp; omega) | omega) _) | (refine Below.drew ?_) | (refine Below.drewN ?_ _) | (refine Below.alloc ?_ (by first | (simp; done) | (simp; omega) | omega) _)))⟩
end Go.Proofs.YtbonamhinnhlnaaGreatDoor
namespace Go.Proofs.YtbonamhinnhlnaaGreatDoor
open Go.RowKit

/-! ### in one of them -/
end Go.Proofs.YtbonamhinnhlnaaGreatDoor
namespace Go.Proofs.YtbonamhinnhlnaaGreatDoor
open Go.RowKit

theorem Own.mono {w : World} {base base' g cap : Nat} {l : List (Int × Bool)} (h : Own w base g cap l) (hb : base' ≤ base) : Own w base' g cap l := by
  rcases h.2 with ⟨h0, _⟩ | ⟨g', cap', cur, hv, hb', r⟩
  · cases h0
  · exact ⟨h.1, .inr ⟨g', cap', cur, hv, Nat.le_trans hb hb', r⟩⟩
theorem flat_set : ∀ (l : List (Int × Bool)) (k : Nat) (v : Int) (s : Bool), k < l.length → ((flat l).set (k * 2) (.int .u8 v)).set (k * 2 + 1) (.bool s) = flat (l.set k (v, s))
  | [], k, _, _, h => by simp at h
  | p :: l, 0, v, s, _ => rfl
  | p :: l, k + 1, v, s, h => by
    have e1 : (k + 1) * 2 = k * 2 + 1 + 1 := by omega
    rw [e1]
    simp only [flat, List.set_cons_succ]
    rw [flat_set l k v s (by simpa using h)]
/-- A cell is stored. -/
theorem Own.stored {w : World} {base g cap : Nat} {l : List (Int × Bool)} (h : Own w base g cap l) (k : Nat) (v : Int) (s : Bool) (hk : k < l.length) :
    Own ((w.setCell ⟨g, k * 2, none⟩ (.int .u8 v)).setCell ⟨g, k * 2 + 1, none⟩ (.bool s)) base g cap (l.set k (v, s)) := by
  have h1 := (World.ownsRow.stored h (k * 2) (.int .u8 v)).1
  have h2 := (World.ownsRow.stored h1 (k * 2 + 1) (.bool s)).1
  unfold Own
  rw [List.length_set, ← flat_set l k v s hk]
  exact h2
/-- What Clone hands back: cells of its own, or nil. -/
def CloneP (l : List (Int × Bool)) (w : World) (e : Ending) (w' : World) : Prop :=
  Below w.heap.size w w' ∧ ((∃ g cap, e = .returned (.slice (some ⟨g, 0, none⟩) l.length cap) ∧ Own w' w.heap.size g cap l) ∨ (e = .returned (.slice none 0 0) ∧ l = []))
set_option maxHeartbeats 1000000 in
theorem clone_ct (sv : Value) (l : List (Int × Bool)) (w : World) (hr : Rd w sv l) (hn : l.length ≤ 100000) :
    Calls Tryz.prog 27 #[sv] w (CloneP l w) := by
  have hrd := hr
  obtain ⟨a, cap, rfl, hcap, hm, hr⟩ := hr
  have hnil := Lib.run_eql_slice_nil (P := Tryz.prog)
  cases a with
  | none =>
    obtain rfl : l = [] := by
      rcases hr with h | ⟨_, _, h, _⟩
      · exact h
      · cases h
    clear hr hrd
    go_enter Tryz.func27, Tryz.ntmps27
    go_wp2
    go_ret
    exact ⟨Below.refl _ _, .inr ⟨rfl, rfl⟩⟩
  | some a =>
    clear hr
    have o0 : Own (w.alloc (.cells #[] 23)) w.heap.size w.heap.size 0 [] := ⟨rfl, .inr ⟨w.heap.size, 0, #[], rfl, Nat.le_refl _, heap_alloc_new w _, by simp, by simp [maxLen], rfl, rfl⟩⟩
    have b0 : Below w.heap.size w (w.alloc (.cells #[] 23)) := (by repeat' (first | exact Below.refl _ _ | (refine Below.setCell ?_ (by first | (simp; done) | (simp; omega) | omega) _) | (refine Below.drew ?_) | (refine Below.drewN ?_ _) | (refine Below.alloc ?_ (by first | (simp; done) | (simp; omega) | omega) _)))
    obtain ⟨g1, c1, w1, r1, o1, _, b1⟩ := app_bytes (w.alloc (.cells #[] 23)) w.heap.size w.heap.size 0 [] l (.slice (some a) l.length cap) 29 o0 (hrd.below b0).src (by simp; omega) (by simp)
    rw [List.nil_append] at r1 o1
    have b1' := b0.trans b1
    clear o0 b0 b1 hrd
    have R1 := Lib.hid r1
    have O1 := Lib.hid o1
    clear r1 o1
    go_enter Tryz.func27, Tryz.ntmps27
    go_wp2_with (at_builtin; refine step_app (by rfl) _ _ _ _ rfl _ _ rfl rfl _ _ R1.out ?_)
    go_ret
    exact ⟨b1', .inl ⟨g1, c1, rfl, O1.out⟩⟩

end Go.Proofs.YtbonamhinnhlnaaGreatDoor
namespace Go.Proofs.YtbonamhinnhlnaaGreatDoor
open Go.RowKit
set_option linter.unusedSimpArgs false
set_option linter.unusedVariables false
set_option maxRecDepth 20000

/-- Bits that are set, counted in halves. -/
def on1 (x : Int) : Int := IntKind.u64.wrap (bits .and .u64 (x / 2) 6148914691236517205 + bits .and .u64 x 6148914691236517205)
def on2 (x : Int) : Int := IntKind.u64.wrap (bits .and .u64 (x / 4) 3689348814741910323 + bits .and .u64 x 3689348814741910323)
def on3 (x : Int) : Int := bits .and .u64 (IntKind.u64.wrap (x / 16 + x)) 1085102592571150095
def on4 (x : Int) : Int := IntKind.u64.wrap (x + x / 256)
def on5 (x : Int) : Int := IntKind.u64.wrap (x + x / 65536)
def on6 (x : Int) : Int := IntKind.u64.wrap (x + x / 4294967296)
def ones (n : Int) : Int := bits .and .i64 (wrap64 (on6 (on5 (on4 (on3 (on2 (on1 n))))))) 127
set_option maxHeartbeats 2000000 in
theorem ones64_ct (n : Int) (w : World) (h0 : 0 ≤ n) (h1 : n < 18446744073709551616) : Calls Tryz.prog 34 #[.int .u64 n] w fun e w' => e = .returned (.int .i64 (ones n)) ∧ Below w.heap.size w w' := by
  have H := Mem.start w
  go_enter Tryz.func34, Tryz.ntmps34
  go_wp2_with fail
  go_ret
  exact ⟨rfl, H.toBelow⟩
theorem ones_ct (n : Int) (w : World) (h0 : 0 ≤ n) (h1 : n < 18446744073709551616) : Calls Tryz.prog 21 #[.int .u64 n] w fun e w' => e = .returned (.int .i64 (ones n)) ∧ Below w.heap.size w w' := by
  have H := Mem.start w
  have Q := Lib.hid (fun wr => ones64_ct n wr h0 h1)
  generalize ones n = k at *
  go_enter Tryz.func21, Tryz.ntmps21
  go_wp2_with (first | (go_at_call 34; (with_reducible refine (Q.out _).mono ?_); rintro e w2 ⟨rfl, hB⟩; replace H := H.next hB; clear hB) | fail)
  go_ret
  exact ⟨rfl, H.toBelow⟩
/-- May memory of so many cells be? -/
def memB (n : Nat) : Bool := decide (256 ≤ n) && decide (n ≤ 65536) && (ones n == 1)
set_option maxHeartbeats 2000000 in
theorem fcheck_ct (sv : Value) (n : Nat) (w : World) (hs : ∃ a cap, sv = .slice a n cap) (hn : n ≤ 9223372036854775807) : Calls Tryz.prog 10 #[sv] w fun e w' => e = .returned (.int .i64 (if memB n then 0 else 1)) ∧ Below w.heap.size w w' := by
  obtain ⟨a, cap, rfl⟩ := hs
  have Q := Lib.hid (fun wr => ones_ct (n : Int) wr (by omega) (by omega))
  have H := Mem.start w
  have hm : memB n = (decide (256 ≤ n) && decide (n ≤ 65536) && (ones n == 1)) := rfl
  generalize ones n = k at *
  by_cases h0 : n < 256
  · have c0 : decide ((n : Int) < 256) = true := decide_eq_true (by omega)
    rw [show memB n = false by rw [hm, decide_eq_false (show ¬ 256 ≤ n by omega)]; rfl]
    clear hm
    go_enter Tryz.func10, Tryz.ntmps10
    go_wp2_with fail
    go_ret
    exact ⟨rfl, H.toBelow⟩
  · have c0 : decide ((n : Int) < 256) = false := decide_eq_false (by omega)
    by_cases h1 : 65536 < n
    · have c1 : decide (65536 < (n : Int)) = true := decide_eq_true (by omega)
      rw [show memB n = false by rw [hm, decide_eq_true (show 256 ≤ n by omega), decide_eq_false (show ¬ n ≤ 65536 by omega)]; rfl]
      clear hm
      go_enter Tryz.func10, Tryz.ntmps10
      go_wp2_with fail
      go_ret
      exact ⟨rfl, H.toBelow⟩
    · have c1 : decide (65536 < (n : Int)) = false := decide_eq_false (by omega)
      cases h2 : (k == 1)
      · have h3 : (k != 1) = true := by simpa using h2
        rw [show memB n = false by rw [hm, h2, Bool.and_false]]
        clear hm
        go_enter Tryz.func10, Tryz.ntmps10
        go_wp2_with (first | (go_at_call 21; (with_reducible refine (Q.out _).mono ?_); rintro e w2 ⟨rfl, hB⟩; replace H := H.next hB; clear hB) | fail)
        go_ret
        exact ⟨rfl, H.toBelow⟩
      · have h3 : (k != 1) = false := by simpa using h2
        rw [show memB n = true by rw [hm, h2, decide_eq_true (show 256 ≤ n by omega), decide_eq_true (show n ≤ 65536 by omega)]; rfl]
        clear hm
        go_enter Tryz.func10, Tryz.ntmps10
        go_wp2_with (first | (go_at_call 21; (with_reducible refine (Q.out _).mono ?_); rintro e w2 ⟨rfl, hB⟩; replace H := H.next hB; clear hB) | fail)
        go_ret
        exact ⟨rfl, H.toBelow⟩
end Go.Proofs.YtbonamhinnhlnaaGreatDoor
namespace Go.Proofs.YtbonamhinnhlnaaGreatDoor
open Go.RowKit
set_option linter.unusedSimpArgs false
set_option linter.unusedVariables false
set_option maxRecDepth 20000

def bcl (p : Int × Bool) : List Value := [.int .u8 p.1, .bool p.2]
theorem flat_bcl : ∀ l : List (Int × Bool), flat l = l.flatMap bcl
  | [] => rfl
  | p :: l => by
    rw [List.flatMap_cons, ← flat_bcl l]
    rfl
/-- The cells of a play. -/
def plC (c : Cp) (g n cap : Nat) : Array Value := cpC c ++ #[.slice (some ⟨g, 0, none⟩) n cap]
theorem row_of_own {w : World} {base g cap : Nat} {l : List (Int × Bool)} (h : Own w base g cap l) : ∃ cs, base ≤ g ∧ w.heap[g]? = some (.cells cs 23) ∧ RowG bcl 2 cs cap l := by
  rcases h.2 with ⟨h0, _⟩ | ⟨g', cap', cur, hv, hb, hg, hn, hm, hs, ht⟩
  · cases h0
  · injection hv with h1 h2 h3
    injection h1 with h1
    injection h1 with h1
    subst h1 h3
    refine ⟨cur, hb, hg, hs, hn, hm, fun j u hj => ?_⟩
    rw [← flat_bcl] at hj
    rw [← ht, List.getElem?_take] at hj
    split at hj
    · simpa using hj
    · cases hj
theorem clone_row {l : List (Int × Bool)} {N : Nat} {w w' : World} {e : Ending} (h : CloneP l w e w') (hne : l ≠ []) (hN : l.length = N) : ∃ g cap cs, e = .returned (.slice (some ⟨g, 0, none⟩) N cap) ∧ Below w.heap.size w w' ∧ w.heap.size ≤ g ∧ w'.heap[g]? = some (.cells cs 23) ∧ RowG bcl 2 cs cap l := by
  subst hN
  obtain ⟨hB, ⟨g, cap, he, hO⟩ | ⟨_, h0⟩⟩ := h
  · obtain ⟨cs, hb, hg, hG⟩ := row_of_own hO
    exact ⟨g, cap, cs, he, hB, hb, hg, hG⟩
  · exact absurd h0 hne
theorem build_pl (c : Cp) (g n cap : Nat) (w : World) : (Instr.build 63 #[(0, .agg (cpC c)), (1, .slice (some ⟨g, 0, none⟩) n cap)]).run Tryz.prog w = .ok (.agg (plC c g n cap)) w := by kernel_rfl
theorem wp_bld {P : Program} {o : Oper} {a : Act} {w : World} {K : Act → World → Prop} {Q : Exit → Act → World → Prop} (T : TypeId) (xs : Array (Nat × Operand)) (ho : o.op = .build T xs) (vs : Array (Nat × Value)) (hx : xs.map (fun (i, x) => (i, a.eval x)) = vs) (r : Value)
    (hr : ∀ w : World, (Instr.build T vs).run P w = .ok r w) (h : K (a.put o.dst r) w) : o.wp P a w K Q := by
  unfold Oper.wp execOp
  simp only [ho, hx, Sem.run_bind, Sem.run_pure, hr, Result.andThen_ok]
  exact h
theorem wp_bxA {P : Program} {o : Oper} {a : Act} {w w0 : World} {n : Nat} {X : List Nat} {l : List (Nat × Array Value)} {K : Act → World → Prop} {Q : Exit → Act → World → Prop} (T : TypeId) (x : Operand) (ho : o.op = .box T x) (H : Mem n X w0 w l) (cs : Array Value) (hx : a.eval x = .agg cs)
    (h : ∀ R w1, w.heap.size ≤ R → Mem n X w0 w1 ((R, cs) :: l) → K (a.put o.dst (.pointer (some ⟨R, 0, none⟩))) w1) : o.wp P a w K Q := by
  unfold Oper.wp execOp
  have hrun : (Instr.box T (a.eval x)).run P w = .ok (.pointer (some ⟨w.heap.size, 0, none⟩)) (w.alloc (.cells cs T)) := by
    rw [hx]
    rfl
  simp only [ho, Sem.run_bind, hrun, Result.andThen_ok, Sem.run_pure]
  exact h _ _ (Nat.le_refl _) (H.new cs T)
attribute [local irreducible] wpList
set_option maxHeartbeats 4000000 in
theorem start_ct (c : Cp) (sv : Value) (l : List (Int × Bool)) (k : Int) (F : Fit c) (ok : okB c = true) (hm : memB l.length = true) (k0 : 0 ≤ k) (k1 : k ≤ 100000) (w : World) (G : GlobO w) (hr : Rd w sv l) :
    Calls Tryz.prog 18 #[.agg (cpC c), sv, .int .i64 k] w fun e w' => ∃ R g cap cs, e = .returned (.tuple #[.pointer (some ⟨R, 0, none⟩), .int .i64 0]) ∧ RowG bcl 2 cs cap l ∧ Mem w.heap.size [] w w' [(R, plC c g l.length cap), (g, cs)] := by
  have hlen : 256 ≤ l.length ∧ l.length ≤ 65536 := by
    simp only [memB, Bool.and_eq_true, decide_eq_true_eq] at hm
    exact ⟨hm.1.1, hm.1.2⟩
  have hne : l ≠ [] := fun h => by rw [h] at hlen; simp at hlen
  have QC := Lib.hid (fun wr (g : GlobO wr) => (show Calls Tryz.prog 28 #[.agg (cpC c)] wr fun e w' => e = .returned (.int .i64 0) ∧ Below wr.heap.size wr w' by
    have := kcheck_ct c wr g F.p0 F.p1 F.q0 F.q1 F.op0 F.op1
    rw [ok] at this
    exact this))
  have QK := Lib.hid (fun wr (h : Rd wr sv l) => clone_ct sv l wr h (by omega))
  have QF := Lib.hid (fun wr => (show Calls Tryz.prog 10 #[sv] wr fun e w' => e = .returned (.int .i64 0) ∧ Below wr.heap.size wr w' by
    have := fcheck_ct sv l.length wr (by obtain ⟨a, cap, h, _⟩ := hr; exact ⟨a, cap, h⟩) (by omega)
    rw [hm] at this
    exact this))
  have d0 : decide (k < 0) = false := decide_eq_false (by omega)
  have d1 : decide (100000 < k) = false := decide_eq_false (by omega)
  have GG := Lib.hid G
  have HR := Lib.hid hr
  have H := Mem.start w
  generalize hN : l.length = N at *
  clear F ok G hr hm hlen k0 k1
  have M1 : True := trivial
  have M2 : True := trivial
  go_enter Tryz.func18, Tryz.ntmps18
  go_wp2_with (first | (clear M1; refine wpList_mboxA rfl _ _ rfl H _ rfl ?_; clear H; intro Rc w1 _ H) | fail)
  (try simp only [Act.put, List.setIfInBounds_toArray, List.set_cons_succ, List.set_cons_zero])
  refine wp_region_y ((0, 0, #[]) : Nat × Nat × Array Value) (by kernel_rfl) (by kernel_rfl) [(some 9, fun _ => .agg (cpC c)), (some 10, fun _ => sv), (some 11, fun R : Nat × Nat × Array Value => .slice (some ⟨R.1, 0, none⟩) N R.2.1), (some 12, fun R : Nat × Nat × Array Value => .agg (plC c R.1 N R.2.1)), (some 13, fun R : Nat × Nat × Array Value => .pointer (some ⟨R.1, 0, none⟩)), (some 8, fun R : Nat × Nat × Array Value => .pointer (some ⟨R.1, 0, none⟩))] (fun D bq wv => (D 3 = true → bq 3 = bq 2) ∧ (D 5 = true → bq 5 = bq 4) ∧ cond (D 4) (Mem w.heap.size [] w wv (((bq 4).1, plC c (bq 2).1 N (bq 2).2.1) :: [((bq 2).1, (bq 2).2.2), (Rc, cpC c)]) ∧ RowG bcl 2 (bq 2).2.2 (bq 2).2.1 l) (cond (D 2) (Mem w.heap.size [] w wv [((bq 2).1, (bq 2).2.2), (Rc, cpC c)] ∧ RowG bcl 2 (bq 2).2.2 (bq 2).2.1 l) (Mem w.heap.size [] w wv [(Rc, cpC c)]))) 32 (by rfl) (by rfl) (by rfl) ⟨(fun h => by cases h), (fun h => by cases h), H.drew⟩ ⟨⟨rfl, ?p0⟩, ⟨rfl, ?p1⟩, ⟨rfl, ?p2⟩, ⟨rfl, ?p3⟩, ⟨rfl, ?p4⟩, ⟨rfl, ?p5⟩, trivial⟩ ?_
  case p0 =>
    intro D bq a' w' hk hc he hl hW
    (try dsimp only at hW)
    have n3 : D 3 = false := hc.no .data hk rfl (by simp) rfl
    have n4 : D 4 = false := hc.no .data n3 rfl (by simp) rfl
    have f3 : a'.tmps.getD 3 undef = .pointer (some ⟨Rc, 0, none⟩) := (hl 3).trans ((vsy_no rfl).trans rfl)
    have hM := pcond_f n4 hW.2.2
    cases hd : D 2 with
    | false => exact wp_sloadA _ _ rfl _ f3 0 (pcond_f hd hM) (cpC c) rfl (by decide +kernel) (by kernel_rfl) ⟨(0, 0, #[]), rfl, hW.1, hW.2.1, hW.2.2⟩
    | true => exact wp_sloadA _ _ rfl _ f3 1 (pcond_t hd hM).1 (cpC c) rfl (by decide +kernel) (by kernel_rfl) ⟨(0, 0, #[]), rfl, hW.1, hW.2.1, hW.2.2⟩
  case p1 =>
    intro D bq a' w' hk hc he hl hW
    (try dsimp only at hW)
    have f1 : a'.tmps.getD 1 undef = sv := (hl 1).trans ((vsy_no rfl).trans rfl)
    exact wp_val sv (by simp only [execOp, Act.eval]; rw [f1]; rfl) ⟨(0, 0, #[]), rfl, hW.1, hW.2.1, hW.2.2⟩
  case p2 =>
    intro D bq a' w' hk hc he hl hW
    (try dsimp only at hW)
    have n3 : D 3 = false := hc.no .data hk rfl (by simp) rfl
    have n4 : D 4 = false := hc.no .data n3 rfl (by simp) rfl
    have e1 : a'.tmps.getD 10 undef = sv := (hl 10).trans (vsy_at (f := fun _ => sv) rfl (he ⟨1, .data⟩ (by simp) rfl) rfl)
    have hM := pcond_f hk (pcond_f n4 hW.2.2)
    refine wp_callp (vals := #[sv]) rfl rfl (by simp only [List.map_toArray, List.map_cons, List.map_nil, Act.eval, e1]) (by kernel_rfl) (QK.out _ (HR.out.below hM.toBelow)) ?_
    intro e w2 hP
    obtain ⟨g, cap, cs, rfl, hB, hb, hO, hG⟩ := clone_row hP hne hN
    exact ⟨_, rfl, (g, cap, cs), rfl, (fun h => by rw [show doneB D 2 3 = D 3 from rfl, n3] at h; cases h), hW.2.1, pcond_mk n4 ⟨hM.add hB hb hO, hG⟩⟩
  case p3 =>
    intro D bq a' w' hk hc he hl hW
    (try dsimp only at hW)
    have e0 : a'.tmps.getD 9 undef = .agg (cpC c) := (hl 9).trans (vsy_at (f := fun _ => .agg (cpC c)) rfl (he ⟨0, .data⟩ (by simp) rfl) rfl)
    have e2 : a'.tmps.getD 11 undef = .slice (some ⟨(bq 2).1, 0, none⟩) N (bq 2).2.1 := (hl 11).trans (vsy_at (f := fun R : Nat × Nat × Array Value => .slice (some ⟨R.1, 0, none⟩) N R.2.1) rfl (he ⟨2, .data⟩ (by simp) rfl) rfl)
    exact wp_bld _ _ rfl #[(0, .agg (cpC c)), (1, .slice (some ⟨(bq 2).1, 0, none⟩) N (bq 2).2.1)] (by simp only [List.map_toArray, List.map_cons, List.map_nil, Act.eval, e0, e2]) _ (build_pl _ _ _ _) ⟨bq 2, rfl, (fun _ => rfl), hW.2.1, hW.2.2⟩
  case p4 =>
    intro D bq a' w' hk hc he hl hW
    (try dsimp only at hW)
    have d3 : D 3 = true := he ⟨3, .data⟩ (by simp) rfl
    have d2 : D 2 = true := hc 3 _ rfl ⟨2, .data⟩ (by simp) rfl d3
    have n5 : D 5 = false := hc.no .data hk rfl (by simp) rfl
    have e3 : a'.tmps.getD 12 undef = .agg (plC c (bq 2).1 N (bq 2).2.1) := (hl 12).trans ((vsy_at (f := fun R : Nat × Nat × Array Value => .agg (plC c R.1 N R.2.1)) rfl d3 rfl).trans (by rw [hW.1 d3]))
    have hM := pcond_t d2 (pcond_f hk hW.2.2)
    refine wp_bxA _ _ rfl hM.1 _ e3 fun R w2 _ hA => ⟨(R, 0, #[]), rfl, hW.1, (fun h => by rw [show doneB D 4 5 = D 5 from rfl, n5] at h; cases h), ⟨hA, hM.2⟩⟩
  case p5 =>
    intro D bq a' w' hk hc he hl hW
    (try dsimp only at hW)
    have e4 : a'.tmps.getD 13 undef = .pointer (some ⟨(bq 4).1, 0, none⟩) := (hl 13).trans (vsy_at (f := fun R : Nat × Nat × Array Value => .pointer (some ⟨R.1, 0, none⟩)) rfl (he ⟨4, .data⟩ (by simp) rfl) rfl)
    exact wp_val (.pointer (some ⟨(bq 4).1, 0, none⟩)) (by simp only [execOp, Act.eval]; rw [e4]; rfl) ⟨bq 4, rfl, hW.1, (fun _ => rfl), hW.2.2⟩
  intro D bq wv hD hW
  (try dsimp only at hW)
  have e3 := hW.1 (hD 3 (by decide))
  have e5 := hW.2.1 (hD 5 (by decide))
  have hx := pcond_t (hD 4 (by decide)) hW.2.2
  clear H hD hW
  simp only [putAll, vsYf, Nat.reduceAdd, List.foldl_cons, List.foldl_nil, Act.put, List.setIfInBounds_toArray, List.set_cons_succ, List.set_cons_zero]
  rw [e3, e5]
  clear e3 e5
  generalize bq 2 = r2 at *
  generalize bq 4 = r4 at *
  obtain ⟨g, cap, cs⟩ := r2
  obtain ⟨Rp, _, _⟩ := r4
  obtain ⟨H, hG⟩ := hx
  dsimp only at H hG ⊢
  go_wp2_with (first | (refine gate_load _ _ rfl ?_; refine wpList_mloadA rfl 28 _ rfl _ rfl 2 H (cpC _) rfl (by decide +kernel) (by kernel_rfl) ?_) | (go_at_call 28; (with_reducible refine (QC.out _ (GG.out.mem H)).mono ?_); rintro e w2 ⟨rfl, hB⟩; replace H := H.next hB; clear hB) | (go_at_call 10; (with_reducible refine (QF.out _).mono ?_); rintro e w2 ⟨rfl, hB⟩; replace H := H.next hB; clear hB) | fail)
  refine ret_tt rfl rfl _ _ rfl rfl ?_
  exact ⟨_, _, _, _, rfl, hG, H.sub (List.Sublist.cons_cons _ (List.Sublist.cons_cons _ (List.Sublist.cons _ (List.Sublist.refl _))))⟩
end Go.Proofs.YtbonamhinnhlnaaGreatDoor
namespace Go.Proofs.YtbonamhinnhlnaaGreatDoor
open Go.RowKit
set_option linter.unusedSimpArgs false
set_option linter.unusedVariables false
set_option maxRecDepth 20000

theorem pl_cpu (c : Cp) (g n cap : Nat) : ∀ j v, (cpC c)[j]? = some v → (plC c g n cap)[0 + j]? = some v := by
  intro j v h
  rw [Nat.zero_add]
  unfold plC
  rw [Array.getElem?_append_left (Array.getElem?_eq_some_iff.1 h).1]
  exact h
theorem pl_at (c : Cp) (g n cap : Nat) : (plC c g n cap)[25]? = some (.slice (some ⟨g, 0, none⟩) n cap) := rfl
theorem pl_set (c d : Cp) (g n cap : Nat) : (splice (plC c g n cap).toList 0 (cpC d).toList).toArray = plC d g n cap := rfl
/-- A cell of a row of bytes is stored, and is read. -/
theorem row_set {cs : Array Value} {cap : Nat} {l : List (Int × Bool)} (h : RowG bcl 2 cs cap l) (k : Nat) (v : Int) (s : Bool) (hk : k < l.length) : RowG bcl 2 (splice cs.toList (k * 2) [.int .u8 v, .bool s]).toArray cap (l.set k (v, s)) := by
  have hsz := h.size
  have hle := h.le
  refine ⟨?_, by rw [List.length_set]; exact hle, h.max, fun j u hu => ?_⟩
  · simp only [splice, List.size_toArray, List.length_append, List.length_take, List.length_drop, Array.length_toList, List.length_cons, List.length_nil]
    omega
  · rw [← flat_bcl, ← flat_set l k v s hk] at hu
    have hf : ∀ j u, (flat l)[j]? = some u → cs[j]? = some u := fun j u hj => h.at_ j u (by rw [← flat_bcl]; exact hj)
    have e : (splice cs.toList (k * 2) [.int .u8 v, .bool s]).toArray = ((cs.toList.set (k * 2) (.int .u8 v)).set (k * 2 + 1) (.bool s)).toArray := by
      congr 1
      unfold splice
      apply List.ext_getElem?
      intro i
      have hc : k * 2 + 1 < cs.toList.length := by rw [Array.length_toList]; omega
      rw [List.getElem?_set, List.getElem?_set, List.length_set]
      by_cases h1 : i < k * 2
      · rw [List.append_assoc, List.getElem?_append_left (by rw [List.length_take]; omega), List.getElem?_take, if_pos h1, if_neg (by omega), if_neg (by omega)]
      · rw [List.append_assoc, List.getElem?_append_right (by rw [List.length_take]; omega), List.length_take, Nat.min_eq_left (by omega)]
        by_cases h2 : i = k * 2
        · subst h2
          simp [hc]
          omega
        · by_cases h3 : i = k * 2 + 1
          · subst h3
            have : k * 2 + 1 - k * 2 = 1 := by omega
            simp [this, hc]
            omega
          · rw [if_neg (by omega), if_neg (by omega), List.getElem?_append_right (by simp; omega), List.getElem?_drop]
            congr 1
            simp
            omega
    rw [e]
    simp only [List.getElem?_toArray]
    rw [List.getElem?_set] at hu ⊢
    rw [List.length_set] at hu ⊢
    have hfl := flat_length l
    have hcl : cs.toList.length = cs.size := Array.length_toList
    split at hu
    · rename_i h1
      rw [if_pos h1]
      split at hu
      · rw [if_pos (by omega)]
        exact hu
      · cases hu
    · rename_i h1
      rw [if_neg h1]
      rw [List.getElem?_set] at hu ⊢
      split at hu
      · rename_i h2
        rw [if_pos h2]
        split at hu
        · rw [if_pos (by omega)]
          exact hu
        · cases hu
      · rename_i h2
        rw [if_neg h2, Array.getElem?_toList]
        exact hf _ _ hu
theorem row_get {cs : Array Value} {cap : Nat} {l : List (Int × Bool)} (h : RowG bcl 2 cs cap l) (k : Nat) (hk : k < l.length) : cs[k * 2]? = some (.int .u8 (nth l k).1) ∧ cs[k * 2 + 1]? = some (.bool (nth l k).2) := by
  obtain ⟨e1, e2⟩ := flat_get l k hk
  rw [flat_bcl] at e1 e2
  exact ⟨h.at_ _ _ e1, h.at_ _ _ e2⟩
/-- A row that lies in a known block reads as a list. -/
theorem rd_row {n : Nat} {X : List Nat} {w0 w : World} {L : List (Nat × Array Value)} {i g cap N : Nat} {cs : Array Value} {l : List (Int × Bool)} (H : Mem n X w0 w L) (hi : L[i]? = some (g, cs)) (h : RowG bcl 2 cs cap l) (hN : l.length = N) : Rd w (.slice (some ⟨g, 0, none⟩) N cap) l := by
  subst hN
  refine ⟨_, _, rfl, h.le, h.max, .inr ⟨g, 0, rfl, H.lt (List.mem_of_getElem? hi), fun k hk => ?_⟩⟩
  obtain ⟨e1, e2⟩ := row_get h k hk
  rw [Nat.zero_add]
  exact ⟨H.cell hi e1, H.cell hi e2⟩
theorem GlobO.two {w w' : World} {R g : Nat} {l : List (Nat × Array Value)} (h : GlobO w) (hR : R ≠ 0) (hg : g ≠ 0) (H : Mem w.heap.size [R, g] w w' l) : GlobO w' where
  cyc := fun i c hi => by
    have := h.cyc i c hi
    have e := H.block _ h.lt (by simpa using ⟨hR.symm, hg.symm⟩)
    unfold World.cell? at this ⊢
    rw [e]
    exact this
  lt := Nat.lt_of_lt_of_le h.lt H.size
theorem Mem.beginTwo {w : World} {R g : Nat} {cs ds : Array Value} {T U : TypeId} (hR : w.heap[R]? = some (.cells cs T)) (hg : w.heap[g]? = some (.cells ds U)) (hne : R ≠ g) : Mem w.heap.size [R, g] w w [(R, cs), (g, ds)] :=
  ⟨rfl, rfl, rfl, Nat.le_refl _, Nat.le_refl _, fun _ _ _ => rfl, fun x hx => by
    simp only [List.mem_cons, List.not_mem_nil, or_false] at hx
    rcases hx with rfl | rfl
    · exact ⟨T, hR⟩
    · exact ⟨U, hg⟩, fun x hx => by
    simp only [List.mem_cons, List.not_mem_nil, or_false] at hx
    rcases hx with rfl | rfl <;> exact .inr (by simp), by simpa using hne⟩
attribute [local irreducible] wpList
set_option maxHeartbeats 4000000 in
theorem cycle_ct (c : Cp) (l : List (Int × Bool)) (N : Nat) (i n r : Bool) (F : Fit c) (ok : okB c = true) (om : okM l) (hN : l.length = N) (hN0 : 0 < N) (hN1 : N ≤ 65536) (R g cap : Nat) (cs : Array Value) (hG : RowG bcl 2 cs cap l) (M0 : Nat) (X0 : List Nat) (W0 w : World) (GL : ∀ w' l', Mem M0 X0 W0 w' l' → GlobO w') (L : List (Nat × Array Value)) (H : Mem M0 X0 W0 w ((R, plC c g N cap) :: (g, cs) :: L)) :
    Calls Tryz.prog 19 #[.pointer (some ⟨R, 0, none⟩), .agg #[.bool i, .bool n, .bool r]] w fun e w' => ∃ cs', e = .returned (.agg (bsC (toldM c l))) ∧ RowG bcl 2 cs' cap (wroteM c l) ∧ Mem M0 X0 W0 w' ((R, plC (nextM c l i n r) g N cap) :: (g, cs') :: L) := by
  have QA := Lib.hid (fun wr gr => kask_ct c F ok wr gr)
  have FB := asked_fit F
  have hgot := got_fit F om (by omega)
  have QT := Lib.hid (fun wr gr => take_ct c (gotM c l).1 (gotM c l).2 i n r F ok hgot.1 hgot.2 wr gr)
  have hk : atM c l < l.length := atM_lt c (by omega)
  have ha : (((askedM c).ad.tmod (N : Int))) = (atM c l : Int) := by
    have h0 := Int.emod_nonneg (askedM c).ad (show (N : Int) ≠ 0 by omega)
    rw [Int.tmod_eq_emod_of_nonneg FB.ad0]
    unfold atM
    rw [hN]
    omega
  have hw : wroteM c l = if (askedM c).wr then l.set (atM c l) ((askedM c).v, (askedM c).vb) else l := rfl
  have hg : gotM c l = nth (wroteM c l) (atM c l) := rfl
  have ht : toldM c l = (askedM c).uV (gotM c l).1 (gotM c l).2 := rfl
  have hx : nextM c l i n r = takeM c (gotM c l).1 (gotM c l).2 i n r := rfl
  have hl : (wroteM c l).length = N := by rw [wroteM_len, hN]
  rw [ht, hx]
  clear ht hx
  generalize takeM c (gotM c l).1 (gotM c l).2 i n r = d at *
  generalize atM c l = k at *
  generalize gotM c l = x at *
  generalize wroteM c l = l2 at *
  generalize askedM c = b at *
  obtain ⟨ad, wr, v, vb, sc⟩ := b
  obtain ⟨x0, xb⟩ := x
  dsimp only at ha hw hgot FB ⊢
  have a0 : 0 ≤ ad := FB.ad0
  have a1 : ad < 65536 := FB.ad1
  have HB := Lib.hid alloc_bus
  have GG := Lib.hid GL
  clear F ok GL FB hgot om
  have M1 : True := trivial
  have M2 : True := trivial
  have M3 : True := trivial
  go_enter Tryz.func19, Tryz.ntmps19
  go_wp2_with (first | (clear M1; refine wpList_mboxA rfl _ _ rfl H _ rfl ?_; clear H; intro Rl w1 _ H) | (clear M2; refine wpList_mnew rfl _ rfl H _ HB.out ?_; clear H; intro Rr w1 _ H) | (refine gate_load _ _ rfl ?_; refine wpList_mload rfl 28 _ rfl _ _ rfl 2 H _ (cpC _) rfl (by decide +kernel) (by kernel_rfl) (pl_cpu _ _ _ _) ?_) | (go_at_call 29; (with_reducible refine (QA.out _ (GG.out _ _ H)).mono ?_); rintro e w2 ⟨rfl, hB⟩; replace H := H.next hB; clear hB) | (clear M3; refine wpList_mnew rfl _ rfl H _ HB.out ?_; clear H; intro Rb w1 _ H) | (refine gate_store _ _ _ rfl ?_; refine wpList_mstoreA rfl 36 _ _ rfl rfl _ rfl 0 H (bsC _) _ rfl rfl (by kernel_rfl) (by kernel_rfl) (by kernel_rfl) ?_; clear H; intro w1 H; simp only [List.set_cons_zero, List.set_cons_succ] at H) | fail)
  (try simp only [Act.put, List.setIfInBounds_toArray, List.set_cons_succ, List.set_cons_zero])
  (refine wp_region_quiet_below (by kernel_rfl) (by kernel_rfl) ?_); (repeat (first | (go_big_quiet_want; refine gate_qload _ _ rfl ?_; refine quiet_mload1 _ _ rfl _ _ rfl 0 H _ (.int .u16 _) rfl rfl (by decide +kernel) ?_; simp only [Act.put, List.setIfInBounds_toArray, List.set_cons_succ, List.set_cons_zero]; go_big_quiet_on) | (go_big_quiet_want; refine gate_qload _ _ rfl ?_; refine quiet_mload1 _ _ rfl _ _ rfl 3 H _ (.slice _ _ _) rfl (pl_at _ _ _ _) (by decide +kernel) ?_; simp only [Act.put, List.setIfInBounds_toArray, List.set_cons_succ, List.set_cons_zero]; go_big_quiet_on) | go_big_quiet_step (fail))); (refine wpQuiet_nil ?_); intro _ hw'; obtain ⟨⟨dq, osq⟩, hw''⟩ := hw'; (subst hw''); replace H := H.next (below_regrown _ dq osq)
  have hkN : (k : Int) < (N : Int) := by omega
  have QL := Lib.hid (fun wr (h : Rd wr (.slice (some ⟨g, 0, none⟩) N cap) l2) => (show Calls Tryz.prog 30 #[.slice (some ⟨g, 0, none⟩) N cap, .int .i64 k] wr fun e w' => e = .returned (.tuple #[.agg #[.int .u8 x0, .bool xb], .int .i64 0]) ∧ Below wr.heap.size wr w' by
    have := load_yes l2 _ k wr h (by omega)
    rw [← hg] at this
    exact this))
  have HS : Hid (k * 2 + (Value.agg #[.int .u8 v, .bool vb]).cells.size ≤ cs.size) := Lib.hid (by
    have := hG.size
    have := hG.le
    show k * 2 + 2 ≤ cs.size
    omega)
  cases wr
  case false =>
    rw [if_neg (by decide)] at hw
    subst hw
    clear HS
    go_wp2_with (first | (refine gate_load _ _ rfl ?_; refine wpList_mload1 rfl _ _ rfl _ _ rfl 0 H _ (.bool _) rfl rfl (by decide +kernel) ?_) | (refine gate_load _ _ rfl ?_; refine wpList_mload1 rfl _ _ rfl _ _ rfl 3 H _ (.slice _ _ _) rfl (pl_at _ _ _ _) (by decide +kernel) ?_) | (go_at_call 30; (with_reducible refine (QL.out _ (rd_row (i := 4) H rfl hG hl)).mono ?_); rintro e w2 ⟨rfl, hB⟩; replace H := H.next hB; clear hB) | (refine gate_store _ _ _ rfl ?_; refine wpList_mstore rfl 23 _ _ rfl rfl _ 2 rfl 0 H (bsC _) _ rfl (.agg #[.int .u8 x0, .bool xb]) rfl (by kernel_rfl) (of_decide_eq_true (by kernel_rfl)) (by kernel_rfl) (sb_V _ _ _) ?_; clear H; intro w1 H; simp only [List.set_cons_zero, List.set_cons_succ] at H) | fail)
    (try simp only [Act.put, List.setIfInBounds_toArray, List.set_cons_succ, List.set_cons_zero])
    refine wp_region_x (by kernel_rfl) (by kernel_rfl) [(some 42, fun _ => .pointer (some ⟨R, 0, none⟩)), (some 43, fun _ => .pointer (some ⟨R, 0, none⟩)), (some 44, fun _ => .pointer (some ⟨R, 0, none⟩)), (some 45, fun _ => .pointer (some ⟨R, 0, none⟩)), (some 46, fun _ => .agg (cpC c)), (some 47, fun _ => .pointer (some ⟨Rb, 2, none⟩)), (some 48, fun _ => .agg #[.int .u8 x0, .bool xb]), (some 49, fun _ => .agg #[.bool i, .bool n, .bool r]), (some 50, fun _ => .tuple #[.agg (cpC d), .int .i64 0]), (some 41, fun _ => .tuple #[.agg (cpC d), .int .i64 0]), (some 51, fun _ => .agg (cpC d)), (some 52, fun _ => .int .i64 0), (some 53, fun _ => .pointer (some ⟨R, 0, none⟩)), (some 54, fun _ => .pointer (some ⟨R, 0, none⟩)), (none, fun _ => undef)] (fun D bq wv => Mem M0 X0 W0 wv ((Rb, bsC ((⟨ad, false, v, vb, sc⟩ : Bs).uV x0 xb)) :: (Rr, bsC bs0) :: (Rl, #[.bool i, .bool n, .bool r]) :: (R, cond (D 14) (plC d g N cap) (plC c g N cap)) :: (g, cs) :: L)) 56 (by rfl) (by rfl) (by rfl) H.drew ⟨⟨rfl, ?p0⟩, ⟨rfl, ?p1⟩, ⟨rfl, ?p2⟩, ⟨rfl, ?p3⟩, ⟨rfl, ?p4⟩, ⟨rfl, ?p5⟩, ⟨rfl, ?p6⟩, ⟨rfl, ?p7⟩, ⟨rfl, ?p8⟩, ⟨rfl, ?p9⟩, ⟨rfl, ?p10⟩, ⟨rfl, ?p11⟩, ⟨rfl, ?p12⟩, ⟨rfl, ?p13⟩, ⟨rfl, ?p14⟩, trivial⟩ ?_
    case p0 =>
      intro D bq a' w' hk hc he hl hW
      (try dsimp only at hW)
      have f0 : a'.tmps.getD 0 undef = .pointer (some ⟨R, 0, none⟩) := (hl 0).trans ((vsx_no rfl).trans rfl)
      exact wp_val (.pointer (some ⟨R, 0, none⟩)) (by simp only [execOp, Act.eval, List.map_toArray, List.map_cons, List.map_nil]; rw [f0]; kernel_rfl) ⟨0, rfl, hW⟩
    case p1 =>
      intro D bq a' w' hk hc he hl hW
      (try dsimp only at hW)
      have f0 : a'.tmps.getD 0 undef = .pointer (some ⟨R, 0, none⟩) := (hl 0).trans ((vsx_no rfl).trans rfl)
      exact wp_val (.pointer (some ⟨R, 0, none⟩)) (by simp only [execOp, Act.eval, List.map_toArray, List.map_cons, List.map_nil]; rw [f0]; kernel_rfl) ⟨0, rfl, hW⟩
    case p2 =>
      intro D bq a' w' hk hc he hl hW
      (try dsimp only at hW)
      have e1 : a'.tmps.getD 43 undef = .pointer (some ⟨R, 0, none⟩) := (hl 43).trans (vsx_at (f := fun _ => .pointer (some ⟨R, 0, none⟩)) rfl (he ⟨1, .data⟩ (by simp) rfl) rfl)
      exact wp_val (.pointer (some ⟨R, 0, none⟩)) (by simp only [execOp, Act.eval, List.map_toArray, List.map_cons, List.map_nil]; rw [e1]; kernel_rfl) ⟨0, rfl, hW⟩
    case p3 =>
      intro D bq a' w' hk hc he hl hW
      (try dsimp only at hW)
      have e2 : a'.tmps.getD 44 undef = .pointer (some ⟨R, 0, none⟩) := (hl 44).trans (vsx_at (f := fun _ => .pointer (some ⟨R, 0, none⟩)) rfl (he ⟨2, .data⟩ (by simp) rfl) rfl)
      exact wp_val (.pointer (some ⟨R, 0, none⟩)) (by simp only [execOp, Act.eval, List.map_toArray, List.map_cons, List.map_nil]; rw [e2]; kernel_rfl) ⟨0, rfl, hW⟩
    case p4 =>
      intro D bq a' w' hk hc he hl hW
      (try dsimp only at hW)
      have e3 : a'.tmps.getD 45 undef = .pointer (some ⟨R, 0, none⟩) := (hl 45).trans (vsx_at (f := fun _ => .pointer (some ⟨R, 0, none⟩)) rfl (he ⟨3, .data⟩ (by simp) rfl) rfl)
      have n8 : D 8 = false := hc.no .data hk rfl (by simp) rfl
      have n14 : D 14 = false := hc.no .chain n8 rfl (by simp) rfl
      have hM := hW
      simp only [n14, cond_false] at hM
      exact wp_sload _ _ rfl R 0 e3 3 hM (plC c g N cap) (cpC c) rfl (by decide +kernel) (by kernel_rfl) (pl_cpu _ _ _ _) ⟨0, rfl, hW⟩
    case p5 =>
      intro D bq a' w' hk hc he hl hW
      (try dsimp only at hW)
      have f5 : a'.tmps.getD 5 undef = .pointer (some ⟨Rb, 0, none⟩) := (hl 5).trans ((vsx_no rfl).trans rfl)
      exact wp_val (.pointer (some ⟨Rb, 2, none⟩)) (by simp only [execOp, Act.eval, List.map_toArray, List.map_cons, List.map_nil]; rw [f5]; kernel_rfl) ⟨0, rfl, hW⟩
    case p6 =>
      intro D bq a' w' hk hc he hl hW
      (try dsimp only at hW)
      have e5 : a'.tmps.getD 47 undef = .pointer (some ⟨Rb, 2, none⟩) := (hl 47).trans (vsx_at (f := fun _ => .pointer (some ⟨Rb, 2, none⟩)) rfl (he ⟨5, .data⟩ (by simp) rfl) rfl)
      exact wp_sload _ _ rfl Rb 2 e5 0 hW _ #[.int .u8 x0, .bool xb] rfl (by decide +kernel) (by kernel_rfl) (part2 rfl rfl) ⟨0, rfl, hW⟩
    case p7 =>
      intro D bq a' w' hk hc he hl hW
      (try dsimp only at hW)
      have f3 : a'.tmps.getD 3 undef = .pointer (some ⟨Rl, 0, none⟩) := (hl 3).trans ((vsx_no rfl).trans rfl)
      exact wp_sloadA _ _ rfl Rl f3 2 hW #[.bool i, .bool n, .bool r] rfl (by decide +kernel) (by kernel_rfl) ⟨0, rfl, hW⟩
    case p8 =>
      intro D bq a' w' hk hc he hl hW
      (try dsimp only at hW)
      have e4 : a'.tmps.getD 46 undef = .agg (cpC c) := (hl 46).trans (vsx_at (f := fun _ => .agg (cpC c)) rfl (he ⟨4, .data⟩ (by simp) rfl) rfl)
      have e6 : a'.tmps.getD 48 undef = .agg #[.int .u8 x0, .bool xb] := (hl 48).trans (vsx_at (f := fun _ => .agg #[.int .u8 x0, .bool xb]) rfl (he ⟨6, .data⟩ (by simp) rfl) rfl)
      have e7 : a'.tmps.getD 49 undef = .agg #[.bool i, .bool n, .bool r] := (hl 49).trans (vsx_at (f := fun _ => .agg #[.bool i, .bool n, .bool r]) rfl (he ⟨7, .data⟩ (by simp) rfl) rfl)
      refine wp_callp (vals := #[.agg (cpC c), .agg #[.int .u8 x0, .bool xb], .agg #[.bool i, .bool n, .bool r]]) rfl rfl (by simp only [List.map_toArray, List.map_cons, List.map_nil, Act.eval, e4, e6, e7]) (by kernel_rfl) (QT.out _ (GG.out _ _ hW)) ?_
      rintro e w2 ⟨rfl, hB⟩
      exact ⟨_, rfl, 0, rfl, hW.next hB⟩
    case p9 =>
      intro D bq a' w' hk hc he hl hW
      (try dsimp only at hW)
      have e8 : a'.tmps.getD 50 undef = .tuple #[.agg (cpC d), .int .i64 0] := (hl 50).trans (vsx_at (f := fun _ => .tuple #[.agg (cpC d), .int .i64 0]) rfl (he ⟨8, .data⟩ (by simp) rfl) rfl)
      exact wp_val (.tuple #[.agg (cpC d), .int .i64 0]) (by simp only [execOp, Act.eval, List.map_toArray, List.map_cons, List.map_nil]; rw [e8]; kernel_rfl) ⟨0, rfl, hW⟩
    case p10 =>
      intro D bq a' w' hk hc he hl hW
      (try dsimp only at hW)
      have e9 : a'.tmps.getD 41 undef = .tuple #[.agg (cpC d), .int .i64 0] := (hl 41).trans (vsx_at (f := fun _ => .tuple #[.agg (cpC d), .int .i64 0]) rfl (he ⟨9, .data⟩ (by simp) rfl) rfl)
      exact wp_val (.agg (cpC d)) (by simp only [execOp, Act.eval, List.map_toArray, List.map_cons, List.map_nil]; rw [e9]; kernel_rfl) ⟨0, rfl, hW⟩
    case p11 =>
      intro D bq a' w' hk hc he hl hW
      (try dsimp only at hW)
      have e9 : a'.tmps.getD 41 undef = .tuple #[.agg (cpC d), .int .i64 0] := (hl 41).trans (vsx_at (f := fun _ => .tuple #[.agg (cpC d), .int .i64 0]) rfl (he ⟨9, .data⟩ (by simp) rfl) rfl)
      exact wp_val (.int .i64 0) (by simp only [execOp, Act.eval, List.map_toArray, List.map_cons, List.map_nil]; rw [e9]; kernel_rfl) ⟨0, rfl, hW⟩
    case p12 =>
      intro D bq a' w' hk hc he hl hW
      (try dsimp only at hW)
      have e0 : a'.tmps.getD 42 undef = .pointer (some ⟨R, 0, none⟩) := (hl 42).trans (vsx_at (f := fun _ => .pointer (some ⟨R, 0, none⟩)) rfl (he ⟨0, .data⟩ (by simp) rfl) rfl)
      exact wp_val (.pointer (some ⟨R, 0, none⟩)) (by simp only [execOp, Act.eval, List.map_toArray, List.map_cons, List.map_nil]; rw [e0]; kernel_rfl) ⟨0, rfl, hW⟩
    case p13 =>
      intro D bq a' w' hk hc he hl hW
      (try dsimp only at hW)
      have e12 : a'.tmps.getD 53 undef = .pointer (some ⟨R, 0, none⟩) := (hl 53).trans (vsx_at (f := fun _ => .pointer (some ⟨R, 0, none⟩)) rfl (he ⟨12, .data⟩ (by simp) rfl) rfl)
      exact wp_val (.pointer (some ⟨R, 0, none⟩)) (by simp only [execOp, Act.eval, List.map_toArray, List.map_cons, List.map_nil]; rw [e12]; kernel_rfl) ⟨0, rfl, hW⟩
    case p14 =>
      intro D bq a' w' hk hc he hl hW
      (try dsimp only at hW)
      have e13 : a'.tmps.getD 54 undef = .pointer (some ⟨R, 0, none⟩) := (hl 54).trans (vsx_at (f := fun _ => .pointer (some ⟨R, 0, none⟩)) rfl (he ⟨13, .data⟩ (by simp) rfl) rfl)
      have e10 : a'.tmps.getD 51 undef = .agg (cpC d) := (hl 51).trans (vsx_at (f := fun _ => .agg (cpC d)) rfl (he ⟨10, .data⟩ (by simp) rfl) rfl)
      have hM := hW
      simp only [hk, cond_false] at hM
      exact wp_sstore1 _ _ _ rfl rfl R 0 e13 3 hM (plC c g N cap) (plC d g N cap) rfl (.agg (cpC d)) e10 (by kernel_rfl) (of_decide_eq_true (by kernel_rfl)) (by kernel_rfl) (pl_set _ _ _ _ _) fun w1 hM1 => ⟨0, rfl, hM1⟩
    intro D bq wv hD hW
    (try dsimp only at hW)
    simp only [hD 14 (by decide), cond_true] at hW
    clear H hD
    have H := hW
    clear hW
    simp only [putAll, vsOf, Nat.reduceAdd, List.foldl_cons, List.foldl_nil, Act.put, List.setIfInBounds_toArray, List.set_cons_succ, List.set_cons_zero]
    go_wp2_with (first | (refine gate_load _ _ rfl ?_; refine wpList_mloadA rfl 36 _ rfl _ rfl 0 H (bsC _) rfl (by decide +kernel) (by kernel_rfl) ?_) | (refine gate_store _ _ _ rfl ?_; refine wpList_mstoreA rfl 36 _ _ rfl rfl _ rfl 1 H (bsC _) _ rfl rfl (by kernel_rfl) (by kernel_rfl) (by kernel_rfl) ?_; clear H; intro w1 H; simp only [List.set_cons_zero, List.set_cons_succ] at H) | fail)
    refine ret_mem1 rfl _ rfl 1 H _ rfl (by kernel_rfl) (by kernel_rfl) rfl ?_
    exact ⟨_, rfl, hG, H.sub (List.Sublist.cons _ (List.Sublist.cons _ (List.Sublist.cons _ (List.Sublist.refl _))))⟩
  case true =>
    rw [if_pos rfl] at hw
    have hG2 := row_set hG k v vb hk
    rw [← hw] at hG2
    go_wp2_with (first | (refine gate_load _ _ rfl ?_; refine wpList_mload1 rfl _ _ rfl _ _ rfl 0 H _ (.bool _) rfl rfl (by decide +kernel) ?_) | fail)
    (try simp only [Act.put, List.setIfInBounds_toArray, List.set_cons_succ, List.set_cons_zero])
    (refine wp_region_tails_below 7 (by kernel_rfl) (by kernel_rfl) ?_); (simp only [List.take_succ_cons, List.take_zero, List.drop_succ_cons, List.drop_zero]); (repeat (first | (go_big_quiet_want; refine gate_qload _ _ rfl ?_; refine quiet_mload 23 _ rfl _ _ rfl 0 H _ #[.int .u8 _, .bool _] rfl (by decide +kernel) (by kernel_rfl) (part2 rfl rfl) ?_; simp only [Act.put, List.setIfInBounds_toArray, List.set_cons_succ, List.set_cons_zero]; go_big_quiet_on) | (go_big_quiet_want; refine gate_qload _ _ rfl ?_; refine quiet_mload1 _ _ rfl _ _ rfl 3 H _ (.slice _ _ _) rfl (pl_at _ _ _ _) (by decide +kernel) ?_; simp only [Act.put, List.setIfInBounds_toArray, List.set_cons_succ, List.set_cons_zero]; go_big_quiet_on) | go_big_quiet_step (fail))); (refine wpQuiet_nil ?_); intro _ hw'; obtain ⟨⟨dq, osq⟩, hw''⟩ := hw'; (subst hw''); replace H := H.next (below_regrown _ dq osq)
    go_wp2_with (first | (refine gate_store _ _ _ rfl ?_; refine wpList_mstore rfl 23 _ _ rfl rfl _ (k * 2) (by simp only [Act.eval]; rfl) 4 H cs _ rfl (.agg #[.int .u8 v, .bool vb]) rfl (by kernel_rfl) HS.out (by kernel_rfl) rfl ?_; clear H; intro w1 H; simp only [List.set_cons_zero, List.set_cons_succ] at H) | (refine gate_load _ _ rfl ?_; refine wpList_mload1 rfl _ _ rfl _ _ rfl 3 H _ (.slice _ _ _) rfl (pl_at _ _ _ _) (by decide +kernel) ?_) | (go_at_call 30; (with_reducible refine (QL.out _ (rd_row (i := 4) H rfl hG2 hl)).mono ?_); rintro e w2 ⟨rfl, hB⟩; replace H := H.next hB; clear hB) | (refine gate_store _ _ _ rfl ?_; refine wpList_mstore rfl 23 _ _ rfl rfl _ 2 rfl 0 H (bsC _) _ rfl (.agg #[.int .u8 x0, .bool xb]) rfl (by kernel_rfl) (of_decide_eq_true (by kernel_rfl)) (by kernel_rfl) (sb_V _ _ _) ?_; clear H; intro w1 H; simp only [List.set_cons_zero, List.set_cons_succ] at H) | fail)
    (try simp only [Act.put, List.setIfInBounds_toArray, List.set_cons_succ, List.set_cons_zero])
    refine wp_region_x (by kernel_rfl) (by kernel_rfl) [(some 42, fun _ => .pointer (some ⟨R, 0, none⟩)), (some 43, fun _ => .pointer (some ⟨R, 0, none⟩)), (some 44, fun _ => .pointer (some ⟨R, 0, none⟩)), (some 45, fun _ => .pointer (some ⟨R, 0, none⟩)), (some 46, fun _ => .agg (cpC c)), (some 47, fun _ => .pointer (some ⟨Rb, 2, none⟩)), (some 48, fun _ => .agg #[.int .u8 x0, .bool xb]), (some 49, fun _ => .agg #[.bool i, .bool n, .bool r]), (some 50, fun _ => .tuple #[.agg (cpC d), .int .i64 0]), (some 41, fun _ => .tuple #[.agg (cpC d), .int .i64 0]), (some 51, fun _ => .agg (cpC d)), (some 52, fun _ => .int .i64 0), (some 53, fun _ => .pointer (some ⟨R, 0, none⟩)), (some 54, fun _ => .pointer (some ⟨R, 0, none⟩)), (none, fun _ => undef)] (fun D bq wv => Mem M0 X0 W0 wv ((Rb, bsC ((⟨ad, true, v, vb, sc⟩ : Bs).uV x0 xb)) :: (Rr, bsC bs0) :: (Rl, #[.bool i, .bool n, .bool r]) :: (R, cond (D 14) (plC d g N cap) (plC c g N cap)) :: (g, (splice cs.toList (k * 2) (Value.agg #[.int .u8 v, .bool vb]).cells.toList).toArray) :: L)) 56 (by rfl) (by rfl) (by rfl) H.drew ⟨⟨rfl, ?p0⟩, ⟨rfl, ?p1⟩, ⟨rfl, ?p2⟩, ⟨rfl, ?p3⟩, ⟨rfl, ?p4⟩, ⟨rfl, ?p5⟩, ⟨rfl, ?p6⟩, ⟨rfl, ?p7⟩, ⟨rfl, ?p8⟩, ⟨rfl, ?p9⟩, ⟨rfl, ?p10⟩, ⟨rfl, ?p11⟩, ⟨rfl, ?p12⟩, ⟨rfl, ?p13⟩, ⟨rfl, ?p14⟩, trivial⟩ ?_
    case p0 =>
      intro D bq a' w' hk hc he hl hW
      (try dsimp only at hW)
      have f0 : a'.tmps.getD 0 undef = .pointer (some ⟨R, 0, none⟩) := (hl 0).trans ((vsx_no rfl).trans rfl)
      exact wp_val (.pointer (some ⟨R, 0, none⟩)) (by simp only [execOp, Act.eval, List.map_toArray, List.map_cons, List.map_nil]; rw [f0]; kernel_rfl) ⟨0, rfl, hW⟩
    case p1 =>
      intro D bq a' w' hk hc he hl hW
      (try dsimp only at hW)
      have f0 : a'.tmps.getD 0 undef = .pointer (some ⟨R, 0, none⟩) := (hl 0).trans ((vsx_no rfl).trans rfl)
      exact wp_val (.pointer (some ⟨R, 0, none⟩)) (by simp only [execOp, Act.eval, List.map_toArray, List.map_cons, List.map_nil]; rw [f0]; kernel_rfl) ⟨0, rfl, hW⟩
    case p2 =>
      intro D bq a' w' hk hc he hl hW
      (try dsimp only at hW)
      have e1 : a'.tmps.getD 43 undef = .pointer (some ⟨R, 0, none⟩) := (hl 43).trans (vsx_at (f := fun _ => .pointer (some ⟨R, 0, none⟩)) rfl (he ⟨1, .data⟩ (by simp) rfl) rfl)
      exact wp_val (.pointer (some ⟨R, 0, none⟩)) (by simp only [execOp, Act.eval, List.map_toArray, List.map_cons, List.map_nil]; rw [e1]; kernel_rfl) ⟨0, rfl, hW⟩
    case p3 =>
      intro D bq a' w' hk hc he hl hW
      (try dsimp only at hW)
      have e2 : a'.tmps.getD 44 undef = .pointer (some ⟨R, 0, none⟩) := (hl 44).trans (vsx_at (f := fun _ => .pointer (some ⟨R, 0, none⟩)) rfl (he ⟨2, .data⟩ (by simp) rfl) rfl)
      exact wp_val (.pointer (some ⟨R, 0, none⟩)) (by simp only [execOp, Act.eval, List.map_toArray, List.map_cons, List.map_nil]; rw [e2]; kernel_rfl) ⟨0, rfl, hW⟩
    case p4 =>
      intro D bq a' w' hk hc he hl hW
      (try dsimp only at hW)
      have e3 : a'.tmps.getD 45 undef = .pointer (some ⟨R, 0, none⟩) := (hl 45).trans (vsx_at (f := fun _ => .pointer (some ⟨R, 0, none⟩)) rfl (he ⟨3, .data⟩ (by simp) rfl) rfl)
      have n8 : D 8 = false := hc.no .data hk rfl (by simp) rfl
      have n14 : D 14 = false := hc.no .chain n8 rfl (by simp) rfl
      have hM := hW
      simp only [n14, cond_false] at hM
      exact wp_sload _ _ rfl R 0 e3 3 hM (plC c g N cap) (cpC c) rfl (by decide +kernel) (by kernel_rfl) (pl_cpu _ _ _ _) ⟨0, rfl, hW⟩
    case p5 =>
      intro D bq a' w' hk hc he hl hW
      (try dsimp only at hW)
      have f5 : a'.tmps.getD 5 undef = .pointer (some ⟨Rb, 0, none⟩) := (hl 5).trans ((vsx_no rfl).trans rfl)
      exact wp_val (.pointer (some ⟨Rb, 2, none⟩)) (by simp only [execOp, Act.eval, List.map_toArray, List.map_cons, List.map_nil]; rw [f5]; kernel_rfl) ⟨0, rfl, hW⟩
    case p6 =>
      intro D bq a' w' hk hc he hl hW
      (try dsimp only at hW)
      have e5 : a'.tmps.getD 47 undef = .pointer (some ⟨Rb, 2, none⟩) := (hl 47).trans (vsx_at (f := fun _ => .pointer (some ⟨Rb, 2, none⟩)) rfl (he ⟨5, .data⟩ (by simp) rfl) rfl)
      exact wp_sload _ _ rfl Rb 2 e5 0 hW _ #[.int .u8 x0, .bool xb] rfl (by decide +kernel) (by kernel_rfl) (part2 rfl rfl) ⟨0, rfl, hW⟩
    case p7 =>
      intro D bq a' w' hk hc he hl hW
      (try dsimp only at hW)
      have f3 : a'.tmps.getD 3 undef = .pointer (some ⟨Rl, 0, none⟩) := (hl 3).trans ((vsx_no rfl).trans rfl)
      exact wp_sloadA _ _ rfl Rl f3 2 hW #[.bool i, .bool n, .bool r] rfl (by decide +kernel) (by kernel_rfl) ⟨0, rfl, hW⟩
    case p8 =>
      intro D bq a' w' hk hc he hl hW
      (try dsimp only at hW)
      have e4 : a'.tmps.getD 46 undef = .agg (cpC c) := (hl 46).trans (vsx_at (f := fun _ => .agg (cpC c)) rfl (he ⟨4, .data⟩ (by simp) rfl) rfl)
      have e6 : a'.tmps.getD 48 undef = .agg #[.int .u8 x0, .bool xb] := (hl 48).trans (vsx_at (f := fun _ => .agg #[.int .u8 x0, .bool xb]) rfl (he ⟨6, .data⟩ (by simp) rfl) rfl)
      have e7 : a'.tmps.getD 49 undef = .agg #[.bool i, .bool n, .bool r] := (hl 49).trans (vsx_at (f := fun _ => .agg #[.bool i, .bool n, .bool r]) rfl (he ⟨7, .data⟩ (by simp) rfl) rfl)
      refine wp_callp (vals := #[.agg (cpC c), .agg #[.int .u8 x0, .bool xb], .agg #[.bool i, .bool n, .bool r]]) rfl rfl (by simp only [List.map_toArray, List.map_cons, List.map_nil, Act.eval, e4, e6, e7]) (by kernel_rfl) (QT.out _ (GG.out _ _ hW)) ?_
      rintro e w2 ⟨rfl, hB⟩
      exact ⟨_, rfl, 0, rfl, hW.next hB⟩
    case p9 =>
      intro D bq a' w' hk hc he hl hW
      (try dsimp only at hW)
      have e8 : a'.tmps.getD 50 undef = .tuple #[.agg (cpC d), .int .i64 0] := (hl 50).trans (vsx_at (f := fun _ => .tuple #[.agg (cpC d), .int .i64 0]) rfl (he ⟨8, .data⟩ (by simp) rfl) rfl)
      exact wp_val (.tuple #[.agg (cpC d), .int .i64 0]) (by simp only [execOp, Act.eval, List.map_toArray, List.map_cons, List.map_nil]; rw [e8]; kernel_rfl) ⟨0, rfl, hW⟩
    case p10 =>
      intro D bq a' w' hk hc he hl hW
      (try dsimp only at hW)
      have e9 : a'.tmps.getD 41 undef = .tuple #[.agg (cpC d), .int .i64 0] := (hl 41).trans (vsx_at (f := fun _ => .tuple #[.agg (cpC d), .int .i64 0]) rfl (he ⟨9, .data⟩ (by simp) rfl) rfl)
      exact wp_val (.agg (cpC d)) (by simp only [execOp, Act.eval, List.map_toArray, List.map_cons, List.map_nil]; rw [e9]; kernel_rfl) ⟨0, rfl, hW⟩
    case p11 =>
      intro D bq a' w' hk hc he hl hW
      (try dsimp only at hW)
      have e9 : a'.tmps.getD 41 undef = .tuple #[.agg (cpC d), .int .i64 0] := (hl 41).trans (vsx_at (f := fun _ => .tuple #[.agg (cpC d), .int .i64 0]) rfl (he ⟨9, .data⟩ (by simp) rfl) rfl)
      exact wp_val (.int .i64 0) (by simp only [execOp, Act.eval, List.map_toArray, List.map_cons, List.map_nil]; rw [e9]; kernel_rfl) ⟨0, rfl, hW⟩
    case p12 =>
      intro D bq a' w' hk hc he hl hW
      (try dsimp only at hW)
      have e0 : a'.tmps.getD 42 undef = .pointer (some ⟨R, 0, none⟩) := (hl 42).trans (vsx_at (f := fun _ => .pointer (some ⟨R, 0, none⟩)) rfl (he ⟨0, .data⟩ (by simp) rfl) rfl)
      exact wp_val (.pointer (some ⟨R, 0, none⟩)) (by simp only [execOp, Act.eval, List.map_toArray, List.map_cons, List.map_nil]; rw [e0]; kernel_rfl) ⟨0, rfl, hW⟩
    case p13 =>
      intro D bq a' w' hk hc he hl hW
      (try dsimp only at hW)
      have e12 : a'.tmps.getD 53 undef = .pointer (some ⟨R, 0, none⟩) := (hl 53).trans (vsx_at (f := fun _ => .pointer (some ⟨R, 0, none⟩)) rfl (he ⟨12, .data⟩ (by simp) rfl) rfl)
      exact wp_val (.pointer (some ⟨R, 0, none⟩)) (by simp only [execOp, Act.eval, List.map_toArray, List.map_cons, List.map_nil]; rw [e12]; kernel_rfl) ⟨0, rfl, hW⟩
    case p14 =>
      intro D bq a' w' hk hc he hl hW
      (try dsimp only at hW)
      have e13 : a'.tmps.getD 54 undef = .pointer (some ⟨R, 0, none⟩) := (hl 54).trans (vsx_at (f := fun _ => .pointer (some ⟨R, 0, none⟩)) rfl (he ⟨13, .data⟩ (by simp) rfl) rfl)
      have e10 : a'.tmps.getD 51 undef = .agg (cpC d) := (hl 51).trans (vsx_at (f := fun _ => .agg (cpC d)) rfl (he ⟨10, .data⟩ (by simp) rfl) rfl)
      have hM := hW
      simp only [hk, cond_false] at hM
      exact wp_sstore1 _ _ _ rfl rfl R 0 e13 3 hM (plC c g N cap) (plC d g N cap) rfl (.agg (cpC d)) e10 (by kernel_rfl) (of_decide_eq_true (by kernel_rfl)) (by kernel_rfl) (pl_set _ _ _ _ _) fun w1 hM1 => ⟨0, rfl, hM1⟩
    intro D bq wv hD hW
    (try dsimp only at hW)
    simp only [hD 14 (by decide), cond_true] at hW
    clear H hD
    have H := hW
    clear hW
    simp only [putAll, vsOf, Nat.reduceAdd, List.foldl_cons, List.foldl_nil, Act.put, List.setIfInBounds_toArray, List.set_cons_succ, List.set_cons_zero]
    go_wp2_with (first | (refine gate_load _ _ rfl ?_; refine wpList_mloadA rfl 36 _ rfl _ rfl 0 H (bsC _) rfl (by decide +kernel) (by kernel_rfl) ?_) | (refine gate_store _ _ _ rfl ?_; refine wpList_mstoreA rfl 36 _ _ rfl rfl _ rfl 1 H (bsC _) _ rfl rfl (by kernel_rfl) (by kernel_rfl) (by kernel_rfl) ?_; clear H; intro w1 H; simp only [List.set_cons_zero, List.set_cons_succ] at H) | fail)
    refine ret_mem1 rfl _ rfl 1 H _ rfl (by kernel_rfl) (by kernel_rfl) rfl ?_
    exact ⟨_, rfl, hG2, H.sub (List.Sublist.cons _ (List.Sublist.cons _ (List.Sublist.cons _ (List.Sublist.refl _))))⟩
/-- A cycle turns the play's own two blocks, and makes new ones; all else, whatever it is, lies as it lay. -/
theorem cycle_wide (c : Cp) (l : List (Int × Bool)) (N : Nat) (i n r : Bool) (F : Fit c) (ok : okB c = true) (om : okM l) (hN : l.length = N) (hN0 : 0 < N) (hN1 : N ≤ 65536) (R g cap : Nat) (cs : Array Value) (hG : RowG bcl 2 cs cap l) (T U : TypeId) (w : World) (G : GlobO w) (h1 : R ≠ 0) (h2 : g ≠ 0)
    (hR : w.heap[R]? = some (.cells (plC c g N cap) T)) (hg : w.heap[g]? = some (.cells cs U)) (hne : R ≠ g) :
    Calls Tryz.prog 19 #[.pointer (some ⟨R, 0, none⟩), .agg #[.bool i, .bool n, .bool r]] w fun e w' => ∃ cs', e = .returned (.agg (bsC (toldM c l))) ∧ RowG bcl 2 cs' cap (wroteM c l) ∧ Mem w.heap.size [R, g] w w' [(R, plC (nextM c l i n r) g N cap), (g, cs')] :=
  cycle_ct c l N i n r F ok om hN hN0 hN1 R g cap cs hG _ _ w w (fun _ _ h => G.two h1 h2 h) [] (Mem.beginTwo hR hg hne)
end Go.Proofs.YtbonamhinnhlnaaGreatDoor
namespace Go.Proofs.YtbonamhinnhlnaaGreatDoor
open Go.RowKit
set_option linter.unusedSimpArgs false
set_option linter.unusedVariables false
section
variable {F : Fence} {n : Nat} {P : Program}
/-- The iterator's side: I k: k rounds are done; Y k: it asks for round k; X k: round k - 1 has left the loop. Rec: what the loop keeps of itself, in blocks from B on that are no cells. -/
def IterW (F : Fence) (n : Nat) (P : Program) (gf : Nat) (lb : Array Value) (encs : Nat → Array Value) (B : Nat) (I Y X : Nat → World → Prop) (S : Nat → Prop) : Prop :=
  ∀ (l : Nat) (Rec RecX : World → Prop) (W : World), (∀ A C, Rec A → KeepsFrom B A C → Rec C) →
    (∀ k W1, Y k W1 → Rec W1 → YieldAt F (n - 1) P l (encs k) W1 fun e W' => (e = .returned (.bool true) ∧ I (k + 1) W' ∧ Rec W') ∨ (e = .returned (.bool false) ∧ X (k + 1) W' ∧ RecX W')) →
    I 0 W → Rec W → CallsIn F n P gf (#[.func (.yield l) #[] #[]] ++ lb) W fun e W' => (∃ v, e = .returned v) ∧ ((∃ k, S k ∧ I k W' ∧ Rec W') ∨ (∃ k, X k W' ∧ RecX W'))
/-- How a round may be left: it goes on, or it leaves the loop by c0. -/
def postW (B : Nat) (I X : Nat → World → Prop) (c0 : Code) (k : Nat) (W : World) : Exit → Act → World → Prop
  | .normal, _, W' => KeepsFrom B W W' ∧ I (k + 1) W'
  | .exit id, _, W' => KeepsFrom B W W' ∧ c0 = .exit id ∧ X (k + 1) W'
  | _, _, _ => False
/-- What stays where blocks from B on that are no cells are laid or turn. -/
structure Abide (B : Nat) (J : World → Prop) : Prop where
  alloc : ∀ W o, J W → J (W.alloc o)
  put : ∀ W l o o', J W → B ≤ l → W.heap[l]? = some o → o.isCells = false → J (W.putObj l o')
theorem rangeW {g : Operand} {ps : Array Tmp} {assign body : Code} {Q : Exit → Act → World → Prop} {a : Act} {w : World}
    (hro : F.round = none) (h1 : 1 ≤ n) {gf : Nat} {lb : Array Value} (hg : a.eval g = .func (.func gf) #[] lb) (hFg : F.fn gf) (eg : ∀ args w, (callFunc gf args).run P w = .ok (.enter gf args) w)
    {encs : Nat → Array Value} {I Y X : Nat → World → Prop} {S : Nat → Prop} {c0 : Code} (hseq : IterW F (n - 1) P gf lb encs w.heap.size I Y X S) (hps : ∀ x, (encs x).size = ps.size)
    (hI : ∀ k, Abide w.heap.size (I k)) (hY : ∀ k, Abide w.heap.size (Y k)) (hX : ∀ k, Abide w.heap.size (X k)) (h0 : I 0 w) (Ax : Nat → Act → World → Prop) (hAx : ∀ k a', Abide w.heap.size (Ax k a'))
    (hassign : ∀ (l k : Nat) (W : World) (K : Act → World → Prop), Y k W → (∀ a' W', KeepsFrom w.heap.size W W' → Y k W' → Ax k a' W' → K a' W') →
      assign.wpIn (F.inRound l) (n - 1 - 1) P (Exit.then K (fun _ _ _ => False)) { tmps := (ps.zip (encs k)).foldl (fun t (p, v) => t.setIfInBounds p v) a.tmps, defers := [] } W)
    (hbody : ∀ (l k : Nat) (a' : Act) (W : World), w.heap.size ≤ l → Y k W → Ax k a' W → body.wpIn (F.inRound l) (n - 1 - 1) P (postW w.heap.size I X c0 k W) a' W)
    (hdone : ∀ (D k : Nat) (W : World), w.heap.size ≤ D → S k → I k W → W.heap[D]? = some (.deferred (some [])) → Q .normal { a with defers := { target := .collected D, args := #[] } :: a.defers } W)
    (hstop : ∀ (D k : Nat) (W : World), w.heap.size ≤ D → X k W → W.heap[D]? = some (.deferred (some [])) → c0.wpIn F n P Q { a with defers := { target := .collected D, args := #[] } :: a.defers } W) :
    (Code.rangeFunc g ps assign body).wpIn F n P Q a w := by
  refine wpIn_rangeFunc fun fn hfn => ?_
  rw [hro]
  obtain ⟨rec, hrec⟩ : ∃ rec : LoopState → Option Code → Loop, rec = fun st pe => { state := st, pending := pe, fn, tmps := a.tmps, params := ps, assign, body, defers := w.heap.size } := ⟨_, rfl⟩
  obtain ⟨V, hV⟩ : ∃ V, V = (w.alloc (.deferred (some []))).alloc (.loop (rec .ready none)) := ⟨_, rfl⟩
  have vl : V.heap[w.heap.size + 1]? = some (.loop (rec .ready none)) := by
    have := World.alloc_heap_new (w.alloc (.deferred (some []))) (.loop (rec .ready none))
    rw [World.size_alloc] at this
    rw [hV]
    exact this
  have vd : V.heap[w.heap.size]? = some (.deferred (some [])) := by
    rw [hV]
    exact (Below.heap_alloc _ _ _ (by simp)).trans (World.alloc_heap_new w _)
  have vi : I 0 V := by
    rw [hV]
    exact (hI 0).alloc _ _ ((hI 0).alloc _ _ h0)
  refine ⟨w.heap.size + 1, [{ target := .collected w.heap.size, args := #[] }], V, { target := .fn (.func gf) lb, args := #[.func (.yield (w.heap.size + 1)) #[] #[]] }, V, gf, #[.func (.yield (w.heap.size + 1)) #[] #[]] ++ lb, V, ?_, ?_, ?_, ?_, fun _ => h1, ?_⟩
  · rw [hV, hrec]
    exact run_enterLoop_outer _ _ _ _ _
  · simp only [resolve, hg]
    simp [go_sem]
  · intro f' hf'
    simp [Target.leads] at hf'
    subst hf'
    exact hFg
  · simp [invoke, go_sem, eg]
  · refine (hseq (w.heap.size + 1)
      (fun W => W.heap[w.heap.size + 1]? = some (.loop (rec .ready none)) ∧ W.heap[w.heap.size]? = some (.deferred (some [])))
      (fun W => W.heap[w.heap.size + 1]? = some (.loop (rec .done (some c0))) ∧ W.heap[w.heap.size]? = some (.deferred (some []))) V
      (fun A C h k => ⟨k.same _ _ (by omega) h.1 rfl, k.same _ _ (Nat.le_refl _) h.2 rfl⟩) ?_ vi ⟨vl, vd⟩).mono ?_
    · rintro k W hy ⟨hl, hk⟩
      have yr := run_yield (P := P) (args := encs k) hl (by rw [hrec]; exact hps k)
      rw [hrec] at yr
      refine ⟨fn, _, assign, body, yr, roundIn_of_wpIn hfn (hassign _ k W _ hy ?_)⟩
      clear yr
      intro a' U hu uy ux
      have ul := hu.same _ _ (by omega) hl rfl
      have uk := hu.same _ _ (Nat.le_refl _) hk rfl
      have un : w.heap.size + 1 < U.heap.size := (Array.getElem?_eq_some_iff.1 ul).1
      refine ⟨_, run_beginRound ul (by rw [hrec]), ?_⟩
      have bl : (U.putObj (w.heap.size + 1) (.loop { rec .ready none with state := .busy })).heap[w.heap.size + 1]? = some (.loop { rec .ready none with state := .busy }) := World.putObj_heap_same un
      have bd : (U.putObj (w.heap.size + 1) (.loop { rec .ready none with state := .busy })).heap[w.heap.size]? = some (.deferred (some [])) := (World.putObj_heap_other (by omega)).trans uk
      refine wpIn_mono (hbody _ k a' _ (by omega) ((hY k).put _ _ _ _ uy (by omega) ul rfl) ((hAx k a').put _ _ _ _ ux (by omega) ul rfl)) ?_
      have fin : ∀ (jump : Option Code) (Z : World), KeepsFrom w.heap.size (U.putObj (w.heap.size + 1) (.loop { rec .ready none with state := .busy })) Z →
          (Instr.endRound (w.heap.size + 1) jump).run P Z = .ok (.bool jump.isNone) (Z.putObj (w.heap.size + 1) (.loop (rec (if jump.isNone then .ready else .done) jump))) ∧
          Z.heap[w.heap.size + 1]? = some (.loop { rec .ready none with state := .busy }) ∧
          (Z.putObj (w.heap.size + 1) (.loop (rec (if jump.isNone then .ready else .done) jump))).heap[w.heap.size + 1]? = some (.loop (rec (if jump.isNone then .ready else .done) jump)) ∧
          (Z.putObj (w.heap.size + 1) (.loop (rec (if jump.isNone then .ready else .done) jump))).heap[w.heap.size]? = some (.deferred (some [])) := fun jump Z hz => by
        have zl := hz.same _ _ (by omega) bl rfl
        have := run_endRound (P := P) jump zl
        rw [hrec] at this ⊢
        exact ⟨this, by rw [hrec] at zl; exact zl, World.putObj_heap_same (Array.getElem?_eq_some_iff.1 zl).1, (World.putObj_heap_other (by omega)).trans (hz.same _ _ (Nat.le_refl _) bd rfl)⟩
      rintro e b Z hp
      cases e with
      | normal =>
        obtain ⟨hz, hi⟩ := hp
        obtain ⟨hr, z1, z2, z3⟩ := fin none Z hz
        exact ⟨_, _, hr, .inl ⟨rfl, (hI _).put _ _ _ _ hi (by omega) z1 rfl, z2, z3⟩⟩
      | exit id =>
        obtain ⟨hz, hc, hx⟩ := hp
        obtain ⟨hr, z1, z2, z3⟩ := fin (some (.exit id)) Z hz
        refine ⟨_, _, hr, .inr ⟨rfl, (hX _).put _ _ _ _ hx (by omega) z1 rfl, ?_, z3⟩⟩
        rw [hc]
        exact z2
      | ret => exact hp.elim
      | goto t => exact hp.elim
      | panic ch => exact hp.elim
      | outgrown => exact hp.elim
    · rintro e Z ⟨⟨v, rfl⟩, (⟨k, hS, hi, hl, hk⟩ | ⟨k, hx, hl, hk⟩)⟩
      · exact ⟨none, _, by have := run_endLoop (P := P) hl (by rw [hrec]; simp); rw [hrec] at this; exact this, hdone _ k _ (Nat.le_refl _) hS ((hI k).put _ _ _ _ hi (by omega) hl rfl) ((World.putObj_heap_other (by omega)).trans hk)⟩
      · exact ⟨some c0, _, by have := run_endLoop (P := P) hl (by rw [hrec]; simp); rw [hrec] at this; exact this, hstop _ k _ (Nat.le_refl _) ((hX k).put _ _ _ _ hx (by omega) hl rfl) ((World.putObj_heap_other (by omega)).trans hk)⟩
end
end Go.Proofs.YtbonamhinnhlnaaGreatDoor
namespace Go.Proofs.YtbonamhinnhlnaaGreatDoor
open Go.RowKit
set_option linter.unusedSimpArgs false
set_option linter.unusedVariables false

def stF (c : Cp) (l : List (Int × Bool)) : Nat → Cp × List (Int × Bool)
  | 0 => (c, l)
  | k + 1 => (nextM (stF c l k).1 (stF c l k).2 false false false, wroteM (stF c l k).1 (stF c l k).2)
def tellF (c : Cp) (l : List (Int × Bool)) (k : Nat) : Bs := toldM (stF c l k).1 (stF c l k).2
/-- So many cycles are played, of n at the most. -/
def EndsF (n : Nat) (c : Cp) (l : List (Int × Bool)) (k : Nat) : Prop := k ≤ n ∧ (∀ j, 0 < j → j < k → (stF c l j).1.jam = false) ∧ (k = n ∨ (0 < k ∧ (stF c l k).1.jam = true))
theorem stF_ok {c : Cp} {l : List (Int × Bool)} (F : Fit c) (ok : okB c = true) (om : okM l) (hne : 0 < l.length) : ∀ k, okB (stF c l k).1 = true ∧ Fit (stF c l k).1 ∧ okM (stF c l k).2 ∧ (stF c l k).2.length = l.length
  | 0 => ⟨ok, F, om, rfl⟩
  | k + 1 => by
    obtain ⟨h1, h2, h3, h4⟩ := stF_ok F ok om hne k
    have hk := next_ok false false false h2 h1 h3 (by omega)
    exact ⟨hk.1, hk.2, okM_wrote h2 h3, (wroteM_len _ _).trans h4⟩
/-- While a play goes on: the play, its memory, how many cycles there are to be, and where the play is. -/
structure PlayAt (c : Cp) (l : List (Int × Bool)) (R g N cap Bn Bp n k : Nat) (W : World) : Prop where
  play : ∃ T, W.heap[R]? = some (.cells (plC (stF c l k).1 g N cap) T)
  row : ∃ cs T, W.heap[g]? = some (.cells cs T) ∧ RowG bcl 2 cs cap (stF c l k).2
  bn : ∃ T, W.heap[Bn]? = some (.cells #[.int .i64 (n : Int)] T)
  bp : ∃ T, W.heap[Bp]? = some (.cells #[.pointer (some ⟨R, 0, none⟩)] T)
  glob : GlobO W
/-- Where its blocks lie. -/
structure PlayIn (R g Bn Bp B : Nat) : Prop where
  r : R < B
  gb : g < B
  n : Bn < B
  p : Bp < B
  o : 0 < B
  rg : R ≠ g
  nr : Bn ≠ R
  ng : Bn ≠ g
  pr : Bp ≠ R
  pg : Bp ≠ g
  ro : R ≠ 0
  go : g ≠ 0
section
variable {c : Cp} {l : List (Int × Bool)} {R g N cap Bn Bp n k B : Nat} {W W' : World}
theorem PlayAt.same (h : PlayAt c l R g N cap Bn Bp n k W) (i : PlayIn R g Bn Bp B) (hs : ∀ b o, W.heap[b]? = some o → b < B → W'.heap[b]? = some o) (hz : W.heap.size ≤ W'.heap.size) : PlayAt c l R g N cap Bn Bp n k W' where
  play := by obtain ⟨T, e⟩ := h.play; exact ⟨T, hs _ _ e i.r⟩
  row := by obtain ⟨cs, T, e, hG⟩ := h.row; exact ⟨cs, T, hs _ _ e i.gb, hG⟩
  bn := by obtain ⟨T, e⟩ := h.bn; exact ⟨T, hs _ _ e i.n⟩
  bp := by obtain ⟨T, e⟩ := h.bp; exact ⟨T, hs _ _ e i.p⟩
  glob := ⟨fun j v hj => by
    have := h.glob.cyc j v hj
    have e : W.heap[0]? = some (W.heap[0]'h.glob.lt) := Array.getElem?_eq_getElem h.glob.lt
    have e' := hs _ _ e i.o
    unfold World.cell? at this ⊢
    rw [e] at this
    rw [e']
    exact this, Nat.lt_of_lt_of_le h.glob.lt hz⟩
/-- The same where one block more may turn, which is none of the play's. -/
theorem PlayAt.but (h : PlayAt c l R g N cap Bn Bp n k W) (i : PlayIn R g Bn Bp B) {x : Nat} (x1 : x ≠ R) (x2 : x ≠ g) (x3 : x ≠ Bn) (x4 : x ≠ Bp) (x5 : x ≠ 0) (hs : ∀ b, b < B → b ≠ x → W'.heap[b]? = W.heap[b]?) (hz : W.heap.size ≤ W'.heap.size) : PlayAt c l R g N cap Bn Bp n k W' where
  play := by rw [hs _ i.r x1.symm]; exact h.play
  row := by rw [hs _ i.gb x2.symm]; exact h.row
  bn := by rw [hs _ i.n x3.symm]; exact h.bn
  bp := by rw [hs _ i.p x4.symm]; exact h.bp
  glob := ⟨fun j v hj => by
    have := h.glob.cyc j v hj
    unfold World.cell? at this ⊢
    rw [hs _ i.o x5.symm]
    exact this, Nat.lt_of_lt_of_le h.glob.lt hz⟩
theorem abide_of {B : Nat} {J : World → Prop} (h : ∀ W W' : World, J W → W.heap.size ≤ W'.heap.size → (∀ b o, W.heap[b]? = some o → (o.isCells = true ∨ b < B) → W'.heap[b]? = some o) → W'.os = W.os → W'.tape = W.tape → W'.output = W.output → J W') : Abide B J where
  alloc := fun W o hj => h W _ hj (by simp) (fun b p hb _ => by
    have hlt : b < W.heap.size := (Array.getElem?_eq_some_iff.1 hb).1
    exact (((Below.refl _ W).alloc (Nat.le_refl _) o).block b hlt).trans hb) rfl rfl rfl
  put := fun W q o o' hj hB ho hc => h W _ hj (by simp [World.putObj]) (fun b p hb hcb => by
    rw [World.putObj_heap_other (by
      rintro rfl
      rw [ho] at hb
      injection hb with hb
      subst hb
      rcases hcb with h1 | h1
      · rw [hc] at h1
        cases h1
      · omega)]
    exact hb) rfl rfl rfl
theorem PlayAt.abide (i : PlayIn R g Bn Bp B) : Abide B (PlayAt c l R g N cap Bn Bp n k) :=
  abide_of fun W W' hj hz hs _ _ _ => hj.same (B := B) i (fun b o hw hb => hs b o hw (.inr hb)) hz
end
end Go.Proofs.YtbonamhinnhlnaaGreatDoor
namespace Go.Proofs.YtbonamhinnhlnaaGreatDoor
open Go.RowKit
set_option linter.unusedSimpArgs false
set_option linter.unusedVariables false
set_option maxRecDepth 100000


/-- One cycle that reads, and one that writes. -/
theorem stF_read {c : Cp} {l m : List (Int × Bool)} {k : Nat} {S S' : Cp} {B : Bs} {v : Int} {b : Bool} (h : stF c l k = (S, m)) (ha : askedM S = B) (hw : B.wr = false) (i : Nat) (hi : (B.ad % (m.length : Int)).toNat = i) (hn : nth m i = (v, b)) (ht : takeM S v b false false false = S') : stF c l (k + 1) = (S', m) := by
  have e1 : wroteM S m = m := by unfold wroteM; rw [ha, hw]; rfl
  have e2 : gotM S m = (v, b) := by unfold gotM atM; rw [e1, ha, hi, hn]
  show (nextM (stF c l k).1 (stF c l k).2 false false false, wroteM (stF c l k).1 (stF c l k).2) = _
  rw [h]
  show (takeM S (gotM S m).1 (gotM S m).2 false false false, wroteM S m) = _
  rw [e1, e2, ← ht]
theorem stF_write {c : Cp} {l m : List (Int × Bool)} {k : Nat} {S S' : Cp} {B : Bs} (h : stF c l k = (S, m)) (ha : askedM S = B) (hw : B.wr = true) (i : Nat) (hi : (B.ad % (m.length : Int)).toNat = i) (hn : i < m.length) (ht : takeM S B.v B.vb false false false = S') : stF c l (k + 1) = (S', m.set i (B.v, B.vb)) := by
  have e1 : wroteM S m = m.set i (B.v, B.vb) := by unfold wroteM atM; rw [ha, hw, hi]; rfl
  have e2 : gotM S m = (B.v, B.vb) := by
    unfold gotM atM
    rw [e1, ha, hi]
    unfold nth
    rw [List.getD_eq_getElem?_getD, List.getElem?_set, if_pos rfl, if_pos hn]
    rfl
  show (nextM (stF c l k).1 (stF c l k).2 false false false, wroteM (stF c l k).1 (stF c l k).2) = _
  rw [h]
  show (takeM S (gotM S m).1 (gotM S m).2 false false false, wroteM S m) = _
  rw [e1, e2, ← ht]

def psA (la : Bool) : Int := nzS (pbV 0 1 false) la
def abB (la lb : Bool) : Bool := la || (lb || hasV (psA la) 1)
def psB (la lb : Bool) : Int := adcS (psA la) (abB la lb)
def psC (la lb : Bool) : Int := nzS (psB la lb) false
def abD (la lb : Bool) : Bool := false || (false || hasV (psC la lb) 1)
def psD (la lb : Bool) : Int := adcS (psC la lb) (abD la lb)
def opC0 (cy : Bool) : Int := if cy then 56 else 24
def memP (a : Int) (la : Bool) (b : Int) (lb cy : Bool) : List (Int × Bool) := [(opC0 cy, false), (165, false), (128, false), (101, false), (129, false), (133, false), (130, false), (169, false), (0, false), (105, false), (0, false), (133, false), (131, false), (2, false)] ++ List.replicate 114 (0, false) ++ [(a, la), (b, lb)] ++ List.replicate 126 (0, false)
theorem fpa_0 (a b x p : Int) (la lb cy : Bool) : askedM (⟨0, false, 0, false, 0, false, 0, false, 0, 0, 0, false, 0, 0, 0, false, 0, false, false, 0, false, false, 0, false, false⟩ : Cp) = ⟨0, false, 0, false, false⟩ := by cases la <;> cases lb <;> cases cy <;> kernel_rfl
theorem fpt_0 (a b x p : Int) (la lb cy : Bool) : takeM (⟨0, false, 0, false, 0, false, 0, false, 0, 0, 0, false, 0, 0, 0, false, 0, false, false, 0, false, false, 0, false, false⟩ : Cp) (opC0 cy) false false false false = (⟨0, false, 0, false, 0, false, 0, false, 0, 0, 1, false, (opC0 cy), 1, 0, false, 0, false, false, 0, false, false, 0, false, false⟩ : Cp) := by cases la <;> cases lb <;> cases cy <;> kernel_rfl
theorem fpa_1 (a b x p : Int) (la lb cy : Bool) : askedM (⟨0, false, 0, false, 0, false, 0, false, 0, 0, 1, false, (opC0 cy), 1, 0, false, 0, false, false, 0, false, false, 0, false, false⟩ : Cp) = ⟨1, false, 0, false, false⟩ := by cases la <;> cases lb <;> cases cy <;> kernel_rfl
theorem fpt_1 (a b x p : Int) (la lb cy : Bool) : takeM (⟨0, false, 0, false, 0, false, 0, false, 0, 0, 1, false, (opC0 cy), 1, 0, false, 0, false, false, 0, false, false, 0, false, false⟩ : Cp) 165 false false false false = (⟨0, false, 0, false, 0, false, 0, false, (pbV 0 1 cy), (pbV 0 1 false), 1, false, (opC0 cy), 0, 0, false, 0, false, false, 0, false, false, 0, false, false⟩ : Cp) := by cases la <;> cases lb <;> cases cy <;> kernel_rfl
theorem fpa_2 (a b x p : Int) (la lb cy : Bool) : askedM (⟨0, false, 0, false, 0, false, 0, false, p, (pbV 0 1 false), 1, false, (opC0 cy), 0, 0, false, 0, false, false, 0, false, false, 0, false, false⟩ : Cp) = ⟨1, false, 0, false, false⟩ := by cases la <;> cases lb <;> cases cy <;> kernel_rfl
theorem fpt_2 (a b x p : Int) (la lb cy : Bool) : takeM (⟨0, false, 0, false, 0, false, 0, false, p, (pbV 0 1 false), 1, false, (opC0 cy), 0, 0, false, 0, false, false, 0, false, false, 0, false, false⟩ : Cp) 165 false false false false = (⟨0, false, 0, false, 0, false, 0, false, p, (pbV 0 1 false), 2, false, 165, 1, 0, false, 0, false, false, 0, false, false, 0, false, false⟩ : Cp) := by cases la <;> cases lb <;> cases cy <;> kernel_rfl
theorem fpa_3 (a b x p : Int) (la lb cy : Bool) : askedM (⟨0, false, 0, false, 0, false, 0, false, p, (pbV 0 1 false), 2, false, 165, 1, 0, false, 0, false, false, 0, false, false, 0, false, false⟩ : Cp) = ⟨2, false, 0, false, false⟩ := by cases la <;> cases lb <;> cases cy <;> kernel_rfl
theorem fpt_3 (a b x p : Int) (la lb cy : Bool) : takeM (⟨0, false, 0, false, 0, false, 0, false, p, (pbV 0 1 false), 2, false, 165, 1, 0, false, 0, false, false, 0, false, false, 0, false, false⟩ : Cp) 128 false false false false = (⟨0, false, 0, false, 0, false, 0, false, p, (pbV 0 1 false), 3, false, 165, 2, 128, false, 0, false, false, 0, false, false, 0, false, false⟩ : Cp) := by cases la <;> cases lb <;> cases cy <;> kernel_rfl
theorem fpa_4 (a b x p : Int) (la lb cy : Bool) : askedM (⟨0, false, 0, false, 0, false, 0, false, p, (pbV 0 1 false), 3, false, 165, 2, 128, false, 0, false, false, 0, false, false, 0, false, false⟩ : Cp) = ⟨128, false, 0, false, false⟩ := by cases la <;> cases lb <;> cases cy <;> kernel_rfl
theorem fpt_4 (a b x p : Int) (la lb cy : Bool) : takeM (⟨0, false, 0, false, 0, false, 0, false, p, (pbV 0 1 false), 3, false, 165, 2, 128, false, 0, false, false, 0, false, false, 0, false, false⟩ : Cp) a la false false false = (⟨a, la, 0, false, 0, false, 0, false, (nzP p a), (psA la), 3, false, 165, 0, 128, false, 0, false, false, 0, false, false, 0, false, false⟩ : Cp) := by cases la <;> cases lb <;> cases cy <;> kernel_rfl
theorem fpa_5 (a b x p : Int) (la lb cy : Bool) : askedM (⟨a, la, 0, false, 0, false, 0, false, p, (psA la), 3, false, 165, 0, 128, false, 0, false, false, 0, false, false, 0, false, false⟩ : Cp) = ⟨3, false, 0, false, false⟩ := by cases la <;> cases lb <;> cases cy <;> kernel_rfl
theorem fpt_5 (a b x p : Int) (la lb cy : Bool) : takeM (⟨a, la, 0, false, 0, false, 0, false, p, (psA la), 3, false, 165, 0, 128, false, 0, false, false, 0, false, false, 0, false, false⟩ : Cp) 101 false false false false = (⟨a, la, 0, false, 0, false, 0, false, p, (psA la), 4, false, 101, 1, 0, false, 0, false, false, 0, false, false, 0, false, false⟩ : Cp) := by cases la <;> cases lb <;> cases cy <;> kernel_rfl
theorem fpa_6 (a b x p : Int) (la lb cy : Bool) : askedM (⟨a, la, 0, false, 0, false, 0, false, p, (psA la), 4, false, 101, 1, 0, false, 0, false, false, 0, false, false, 0, false, false⟩ : Cp) = ⟨4, false, 0, false, false⟩ := by cases la <;> cases lb <;> cases cy <;> kernel_rfl
theorem fpt_6 (a b x p : Int) (la lb cy : Bool) : takeM (⟨a, la, 0, false, 0, false, 0, false, p, (psA la), 4, false, 101, 1, 0, false, 0, false, false, 0, false, false, 0, false, false⟩ : Cp) 129 false false false false = (⟨a, la, 0, false, 0, false, 0, false, p, (psA la), 5, false, 101, 2, 129, false, 0, false, false, 0, false, false, 0, false, false⟩ : Cp) := by cases la <;> cases lb <;> cases cy <;> kernel_rfl
theorem fpa_7 (a b x p : Int) (la lb cy : Bool) : askedM (⟨a, la, 0, false, 0, false, 0, false, p, (psA la), 5, false, 101, 2, 129, false, 0, false, false, 0, false, false, 0, false, false⟩ : Cp) = ⟨129, false, 0, false, false⟩ := by cases la <;> cases lb <;> cases cy <;> kernel_rfl
theorem fpt_7 (a b x p : Int) (la lb cy : Bool) : takeM (⟨a, la, 0, false, 0, false, 0, false, p, (psA la), 5, false, 101, 2, 129, false, 0, false, false, 0, false, false, 0, false, false⟩ : Cp) b lb false false false = (⟨(adcV a b (cI p)), (abB la lb), 0, false, 0, false, 0, false, (adcP p a b (cI p)), (psB la lb), 5, false, 101, 0, 129, false, 0, false, false, 0, false, false, 0, false, false⟩ : Cp) := by cases la <;> cases lb <;> cases cy <;> kernel_rfl
theorem fpa_8 (a b x p : Int) (la lb cy : Bool) : askedM (⟨x, (abB la lb), 0, false, 0, false, 0, false, p, (psB la lb), 5, false, 101, 0, 129, false, 0, false, false, 0, false, false, 0, false, false⟩ : Cp) = ⟨5, false, 0, false, false⟩ := by cases la <;> cases lb <;> cases cy <;> kernel_rfl
theorem fpt_8 (a b x p : Int) (la lb cy : Bool) : takeM (⟨x, (abB la lb), 0, false, 0, false, 0, false, p, (psB la lb), 5, false, 101, 0, 129, false, 0, false, false, 0, false, false, 0, false, false⟩ : Cp) 133 false false false false = (⟨x, (abB la lb), 0, false, 0, false, 0, false, p, (psB la lb), 6, false, 133, 1, 0, false, 0, false, false, 0, false, false, 0, false, false⟩ : Cp) := by cases la <;> cases lb <;> cases cy <;> kernel_rfl
theorem fpa_9 (a b x p : Int) (la lb cy : Bool) : askedM (⟨x, (abB la lb), 0, false, 0, false, 0, false, p, (psB la lb), 6, false, 133, 1, 0, false, 0, false, false, 0, false, false, 0, false, false⟩ : Cp) = ⟨6, false, 0, false, false⟩ := by cases la <;> cases lb <;> cases cy <;> kernel_rfl
theorem fpt_9 (a b x p : Int) (la lb cy : Bool) : takeM (⟨x, (abB la lb), 0, false, 0, false, 0, false, p, (psB la lb), 6, false, 133, 1, 0, false, 0, false, false, 0, false, false, 0, false, false⟩ : Cp) 130 false false false false = (⟨x, (abB la lb), 0, false, 0, false, 0, false, p, (psB la lb), 7, false, 133, 2, 130, false, 0, false, false, 0, false, false, 0, false, false⟩ : Cp) := by cases la <;> cases lb <;> cases cy <;> kernel_rfl
theorem fpa_10 (a b x p : Int) (la lb cy : Bool) : askedM (⟨x, (abB la lb), 0, false, 0, false, 0, false, p, (psB la lb), 7, false, 133, 2, 130, false, 0, false, false, 0, false, false, 0, false, false⟩ : Cp) = ⟨130, true, x, (abB la lb), false⟩ := by cases la <;> cases lb <;> cases cy <;> kernel_rfl
theorem fpt_10 (a b x p : Int) (la lb cy : Bool) : takeM (⟨x, (abB la lb), 0, false, 0, false, 0, false, p, (psB la lb), 7, false, 133, 2, 130, false, 0, false, false, 0, false, false, 0, false, false⟩ : Cp) x (abB la lb) false false false = (⟨x, (abB la lb), 0, false, 0, false, 0, false, p, (psB la lb), 7, false, 133, 0, 130, false, 0, false, false, 0, false, false, 0, false, false⟩ : Cp) := by cases la <;> cases lb <;> cases cy <;> kernel_rfl
theorem fpa_11 (a b x p : Int) (la lb cy : Bool) : askedM (⟨x, (abB la lb), 0, false, 0, false, 0, false, p, (psB la lb), 7, false, 133, 0, 130, false, 0, false, false, 0, false, false, 0, false, false⟩ : Cp) = ⟨7, false, 0, false, false⟩ := by cases la <;> cases lb <;> cases cy <;> kernel_rfl
theorem fpt_11 (a b x p : Int) (la lb cy : Bool) : takeM (⟨x, (abB la lb), 0, false, 0, false, 0, false, p, (psB la lb), 7, false, 133, 0, 130, false, 0, false, false, 0, false, false, 0, false, false⟩ : Cp) 169 false false false false = (⟨x, (abB la lb), 0, false, 0, false, 0, false, p, (psB la lb), 8, false, 169, 1, 0, false, 0, false, false, 0, false, false, 0, false, false⟩ : Cp) := by cases la <;> cases lb <;> cases cy <;> kernel_rfl
theorem fpa_12 (a b x p : Int) (la lb cy : Bool) : askedM (⟨x, (abB la lb), 0, false, 0, false, 0, false, p, (psB la lb), 8, false, 169, 1, 0, false, 0, false, false, 0, false, false, 0, false, false⟩ : Cp) = ⟨8, false, 0, false, false⟩ := by cases la <;> cases lb <;> cases cy <;> kernel_rfl
theorem fpt_12 (a b x p : Int) (la lb cy : Bool) : takeM (⟨x, (abB la lb), 0, false, 0, false, 0, false, p, (psB la lb), 8, false, 169, 1, 0, false, 0, false, false, 0, false, false, 0, false, false⟩ : Cp) 0 false false false false = (⟨0, false, 0, false, 0, false, 0, false, (nzP p 0), (psC la lb), 9, false, 169, 0, 0, false, 0, false, false, 0, false, false, 0, false, false⟩ : Cp) := by cases la <;> cases lb <;> cases cy <;> kernel_rfl
theorem fpa_13 (a b x p : Int) (la lb cy : Bool) : askedM (⟨0, false, 0, false, 0, false, 0, false, p, (psC la lb), 9, false, 169, 0, 0, false, 0, false, false, 0, false, false, 0, false, false⟩ : Cp) = ⟨9, false, 0, false, false⟩ := by cases la <;> cases lb <;> cases cy <;> kernel_rfl
theorem fpt_13 (a b x p : Int) (la lb cy : Bool) : takeM (⟨0, false, 0, false, 0, false, 0, false, p, (psC la lb), 9, false, 169, 0, 0, false, 0, false, false, 0, false, false, 0, false, false⟩ : Cp) 105 false false false false = (⟨0, false, 0, false, 0, false, 0, false, p, (psC la lb), 10, false, 105, 1, 0, false, 0, false, false, 0, false, false, 0, false, false⟩ : Cp) := by cases la <;> cases lb <;> cases cy <;> kernel_rfl
theorem fpa_14 (a b x p : Int) (la lb cy : Bool) : askedM (⟨0, false, 0, false, 0, false, 0, false, p, (psC la lb), 10, false, 105, 1, 0, false, 0, false, false, 0, false, false, 0, false, false⟩ : Cp) = ⟨10, false, 0, false, false⟩ := by cases la <;> cases lb <;> cases cy <;> kernel_rfl
theorem fpt_14 (a b x p : Int) (la lb cy : Bool) : takeM (⟨0, false, 0, false, 0, false, 0, false, p, (psC la lb), 10, false, 105, 1, 0, false, 0, false, false, 0, false, false, 0, false, false⟩ : Cp) 0 false false false false = (⟨(adcV 0 0 (cI p)), (abD la lb), 0, false, 0, false, 0, false, (adcP p 0 0 (cI p)), (psD la lb), 11, false, 105, 0, 0, false, 0, false, false, 0, false, false, 0, false, false⟩ : Cp) := by cases la <;> cases lb <;> cases cy <;> kernel_rfl
theorem fpa_15 (a b x p : Int) (la lb cy : Bool) : askedM (⟨x, (abD la lb), 0, false, 0, false, 0, false, p, (psD la lb), 11, false, 105, 0, 0, false, 0, false, false, 0, false, false, 0, false, false⟩ : Cp) = ⟨11, false, 0, false, false⟩ := by cases la <;> cases lb <;> cases cy <;> kernel_rfl
theorem fpt_15 (a b x p : Int) (la lb cy : Bool) : takeM (⟨x, (abD la lb), 0, false, 0, false, 0, false, p, (psD la lb), 11, false, 105, 0, 0, false, 0, false, false, 0, false, false, 0, false, false⟩ : Cp) 133 false false false false = (⟨x, (abD la lb), 0, false, 0, false, 0, false, p, (psD la lb), 12, false, 133, 1, 0, false, 0, false, false, 0, false, false, 0, false, false⟩ : Cp) := by cases la <;> cases lb <;> cases cy <;> kernel_rfl
theorem fpa_16 (a b x p : Int) (la lb cy : Bool) : askedM (⟨x, (abD la lb), 0, false, 0, false, 0, false, p, (psD la lb), 12, false, 133, 1, 0, false, 0, false, false, 0, false, false, 0, false, false⟩ : Cp) = ⟨12, false, 0, false, false⟩ := by cases la <;> cases lb <;> cases cy <;> kernel_rfl
theorem fpt_16 (a b x p : Int) (la lb cy : Bool) : takeM (⟨x, (abD la lb), 0, false, 0, false, 0, false, p, (psD la lb), 12, false, 133, 1, 0, false, 0, false, false, 0, false, false, 0, false, false⟩ : Cp) 131 false false false false = (⟨x, (abD la lb), 0, false, 0, false, 0, false, p, (psD la lb), 13, false, 133, 2, 131, false, 0, false, false, 0, false, false, 0, false, false⟩ : Cp) := by cases la <;> cases lb <;> cases cy <;> kernel_rfl
theorem fpa_17 (a b x p : Int) (la lb cy : Bool) : askedM (⟨x, (abD la lb), 0, false, 0, false, 0, false, p, (psD la lb), 13, false, 133, 2, 131, false, 0, false, false, 0, false, false, 0, false, false⟩ : Cp) = ⟨131, true, x, (abD la lb), false⟩ := by cases la <;> cases lb <;> cases cy <;> kernel_rfl
theorem fpt_17 (a b x p : Int) (la lb cy : Bool) : takeM (⟨x, (abD la lb), 0, false, 0, false, 0, false, p, (psD la lb), 13, false, 133, 2, 131, false, 0, false, false, 0, false, false, 0, false, false⟩ : Cp) x (abD la lb) false false false = (⟨x, (abD la lb), 0, false, 0, false, 0, false, p, (psD la lb), 13, false, 133, 0, 131, false, 0, false, false, 0, false, false, 0, false, false⟩ : Cp) := by cases la <;> cases lb <;> cases cy <;> kernel_rfl
theorem fpa_18 (a b x p : Int) (la lb cy : Bool) : askedM (⟨x, (abD la lb), 0, false, 0, false, 0, false, p, (psD la lb), 13, false, 133, 0, 131, false, 0, false, false, 0, false, false, 0, false, false⟩ : Cp) = ⟨13, false, 0, false, false⟩ := by cases la <;> cases lb <;> cases cy <;> kernel_rfl
theorem fpt_18 (a b x p : Int) (la lb cy : Bool) : takeM (⟨x, (abD la lb), 0, false, 0, false, 0, false, p, (psD la lb), 13, false, 133, 0, 131, false, 0, false, false, 0, false, false, 0, false, false⟩ : Cp) 2 false false false false = (⟨x, (abD la lb), 0, false, 0, false, 0, false, p, (psD la lb), 14, false, 2, 1, 0, false, 0, false, false, 0, false, false, 0, false, false⟩ : Cp) := by cases la <;> cases lb <;> cases cy <;> kernel_rfl
theorem fpa_19 (a b x p : Int) (la lb cy : Bool) : askedM (⟨x, (abD la lb), 0, false, 0, false, 0, false, p, (psD la lb), 14, false, 2, 1, 0, false, 0, false, false, 0, false, false, 0, false, false⟩ : Cp) = ⟨65535, false, 0, false, false⟩ := by cases la <;> cases lb <;> cases cy <;> kernel_rfl
theorem fpt_19 (a b x p : Int) (la lb cy : Bool) : takeM (⟨x, (abD la lb), 0, false, 0, false, 0, false, p, (psD la lb), 14, false, 2, 1, 0, false, 0, false, false, 0, false, false, 0, false, false⟩ : Cp) 0 false false false false = (⟨x, (abD la lb), 0, false, 0, false, 0, false, p, (psD la lb), 14, false, 2, 1, 0, false, 0, false, false, 0, false, false, 0, false, true⟩ : Cp) := by cases la <;> cases lb <;> cases cy <;> kernel_rfl
theorem memP_len (a b : Int) (la lb cy : Bool) : (memP a la b lb cy).length = 256 := rfl
theorem memP_ok (a b : Int) (la lb cy : Bool) (a0 : 0 ≤ a) (a1 : a < 256) (b0 : 0 ≤ b) (b1 : b < 256) : okM (memP a la b lb cy) := by
  intro x hx
  simp only [memP, List.mem_append, List.mem_cons, List.not_mem_nil, or_false, List.mem_replicate] at hx
  rcases hx with ((h | ⟨_, rfl⟩) | h) | ⟨_, rfl⟩
  · rcases h with rfl | rfl | rfl | rfl | rfl | rfl | rfl | rfl | rfl | rfl | rfl | rfl | rfl | rfl
    · cases cy <;> decide
    all_goals decide
  · decide
  · rcases h with rfl | rfl
    · exact ⟨a0, a1⟩
    · exact ⟨b0, b1⟩
  · decide

def fpP1 (a : Int) (cy : Bool) : Int := nzP (pbV 0 1 cy) a
def fpX (a b : Int) (cy : Bool) : Int := adcV a b (cI (fpP1 a cy))
def fpP2 (a b : Int) (cy : Bool) : Int := adcP (fpP1 a cy) a b (cI (fpP1 a cy))
def fpP3 (a b : Int) (cy : Bool) : Int := nzP (fpP2 a b cy) 0
def fpY (a b : Int) (cy : Bool) : Int := adcV 0 0 (cI (fpP3 a b cy))
def fpP4 (a b : Int) (cy : Bool) : Int := adcP (fpP3 a b cy) 0 0 (cI (fpP3 a b cy))
def fpS_0 (a b : Int) (la lb cy : Bool) : Cp := (⟨0, false, 0, false, 0, false, 0, false, 0, 0, 0, false, 0, 0, 0, false, 0, false, false, 0, false, false, 0, false, false⟩ : Cp)
def fpS_1 (a b : Int) (la lb cy : Bool) : Cp := (⟨0, false, 0, false, 0, false, 0, false, 0, 0, 1, false, (opC0 cy), 1, 0, false, 0, false, false, 0, false, false, 0, false, false⟩ : Cp)
def fpS_2 (a b : Int) (la lb cy : Bool) : Cp := (⟨0, false, 0, false, 0, false, 0, false, (pbV 0 1 cy), (pbV 0 1 false), 1, false, (opC0 cy), 0, 0, false, 0, false, false, 0, false, false, 0, false, false⟩ : Cp)
def fpS_3 (a b : Int) (la lb cy : Bool) : Cp := (⟨0, false, 0, false, 0, false, 0, false, (pbV 0 1 cy), (pbV 0 1 false), 2, false, 165, 1, 0, false, 0, false, false, 0, false, false, 0, false, false⟩ : Cp)
def fpS_4 (a b : Int) (la lb cy : Bool) : Cp := (⟨0, false, 0, false, 0, false, 0, false, (pbV 0 1 cy), (pbV 0 1 false), 3, false, 165, 2, 128, false, 0, false, false, 0, false, false, 0, false, false⟩ : Cp)
def fpS_5 (a b : Int) (la lb cy : Bool) : Cp := (⟨a, la, 0, false, 0, false, 0, false, (fpP1 a cy), (psA la), 3, false, 165, 0, 128, false, 0, false, false, 0, false, false, 0, false, false⟩ : Cp)
def fpS_6 (a b : Int) (la lb cy : Bool) : Cp := (⟨a, la, 0, false, 0, false, 0, false, (fpP1 a cy), (psA la), 4, false, 101, 1, 0, false, 0, false, false, 0, false, false, 0, false, false⟩ : Cp)
def fpS_7 (a b : Int) (la lb cy : Bool) : Cp := (⟨a, la, 0, false, 0, false, 0, false, (fpP1 a cy), (psA la), 5, false, 101, 2, 129, false, 0, false, false, 0, false, false, 0, false, false⟩ : Cp)
def fpS_8 (a b : Int) (la lb cy : Bool) : Cp := (⟨(fpX a b cy), (abB la lb), 0, false, 0, false, 0, false, (fpP2 a b cy), (psB la lb), 5, false, 101, 0, 129, false, 0, false, false, 0, false, false, 0, false, false⟩ : Cp)
def fpS_9 (a b : Int) (la lb cy : Bool) : Cp := (⟨(fpX a b cy), (abB la lb), 0, false, 0, false, 0, false, (fpP2 a b cy), (psB la lb), 6, false, 133, 1, 0, false, 0, false, false, 0, false, false, 0, false, false⟩ : Cp)
def fpS_10 (a b : Int) (la lb cy : Bool) : Cp := (⟨(fpX a b cy), (abB la lb), 0, false, 0, false, 0, false, (fpP2 a b cy), (psB la lb), 7, false, 133, 2, 130, false, 0, false, false, 0, false, false, 0, false, false⟩ : Cp)
def fpS_11 (a b : Int) (la lb cy : Bool) : Cp := (⟨(fpX a b cy), (abB la lb), 0, false, 0, false, 0, false, (fpP2 a b cy), (psB la lb), 7, false, 133, 0, 130, false, 0, false, false, 0, false, false, 0, false, false⟩ : Cp)
def fpS_12 (a b : Int) (la lb cy : Bool) : Cp := (⟨(fpX a b cy), (abB la lb), 0, false, 0, false, 0, false, (fpP2 a b cy), (psB la lb), 8, false, 169, 1, 0, false, 0, false, false, 0, false, false, 0, false, false⟩ : Cp)
def fpS_13 (a b : Int) (la lb cy : Bool) : Cp := (⟨0, false, 0, false, 0, false, 0, false, (fpP3 a b cy), (psC la lb), 9, false, 169, 0, 0, false, 0, false, false, 0, false, false, 0, false, false⟩ : Cp)
def fpS_14 (a b : Int) (la lb cy : Bool) : Cp := (⟨0, false, 0, false, 0, false, 0, false, (fpP3 a b cy), (psC la lb), 10, false, 105, 1, 0, false, 0, false, false, 0, false, false, 0, false, false⟩ : Cp)
def fpS_15 (a b : Int) (la lb cy : Bool) : Cp := (⟨(fpY a b cy), (abD la lb), 0, false, 0, false, 0, false, (fpP4 a b cy), (psD la lb), 11, false, 105, 0, 0, false, 0, false, false, 0, false, false, 0, false, false⟩ : Cp)
def fpS_16 (a b : Int) (la lb cy : Bool) : Cp := (⟨(fpY a b cy), (abD la lb), 0, false, 0, false, 0, false, (fpP4 a b cy), (psD la lb), 12, false, 133, 1, 0, false, 0, false, false, 0, false, false, 0, false, false⟩ : Cp)
def fpS_17 (a b : Int) (la lb cy : Bool) : Cp := (⟨(fpY a b cy), (abD la lb), 0, false, 0, false, 0, false, (fpP4 a b cy), (psD la lb), 13, false, 133, 2, 131, false, 0, false, false, 0, false, false, 0, false, false⟩ : Cp)
def fpS_18 (a b : Int) (la lb cy : Bool) : Cp := (⟨(fpY a b cy), (abD la lb), 0, false, 0, false, 0, false, (fpP4 a b cy), (psD la lb), 13, false, 133, 0, 131, false, 0, false, false, 0, false, false, 0, false, false⟩ : Cp)
def fpS_19 (a b : Int) (la lb cy : Bool) : Cp := (⟨(fpY a b cy), (abD la lb), 0, false, 0, false, 0, false, (fpP4 a b cy), (psD la lb), 14, false, 2, 1, 0, false, 0, false, false, 0, false, false, 0, false, false⟩ : Cp)
def fpS_20 (a b : Int) (la lb cy : Bool) : Cp := (⟨(fpY a b cy), (abD la lb), 0, false, 0, false, 0, false, (fpP4 a b cy), (psD la lb), 14, false, 2, 1, 0, false, 0, false, false, 0, false, false, 0, false, true⟩ : Cp)
theorem fp_0 (a b : Int) (la lb cy : Bool) : stF cp0 (memP a la b lb cy) 0 = (fpS_0 a b la lb cy, memP a la b lb cy) := rfl
theorem fp_1 (a b : Int) (la lb cy : Bool) : stF cp0 (memP a la b lb cy) 1 = (fpS_1 a b la lb cy, memP a la b lb cy) := stF_read (v := (opC0 cy)) (b := false) (fp_0 a b la lb cy) (fpa_0 a b 0 0 la lb cy) rfl 0 (by kernel_rfl) (by kernel_rfl) (fpt_0 a b 0 0 la lb cy)
theorem fp_2 (a b : Int) (la lb cy : Bool) : stF cp0 (memP a la b lb cy) 2 = (fpS_2 a b la lb cy, memP a la b lb cy) := stF_read (v := 165) (b := false) (fp_1 a b la lb cy) (fpa_1 a b 0 0 la lb cy) rfl 1 (by kernel_rfl) (by kernel_rfl) (fpt_1 a b 0 0 la lb cy)
theorem fp_3 (a b : Int) (la lb cy : Bool) : stF cp0 (memP a la b lb cy) 3 = (fpS_3 a b la lb cy, memP a la b lb cy) := stF_read (v := 165) (b := false) (fp_2 a b la lb cy) (fpa_2 a b 0 (pbV 0 1 cy) la lb cy) rfl 1 (by kernel_rfl) (by kernel_rfl) (fpt_2 a b 0 (pbV 0 1 cy) la lb cy)
theorem fp_4 (a b : Int) (la lb cy : Bool) : stF cp0 (memP a la b lb cy) 4 = (fpS_4 a b la lb cy, memP a la b lb cy) := stF_read (v := 128) (b := false) (fp_3 a b la lb cy) (fpa_3 a b 0 (pbV 0 1 cy) la lb cy) rfl 2 (by kernel_rfl) (by kernel_rfl) (fpt_3 a b 0 (pbV 0 1 cy) la lb cy)
theorem fp_5 (a b : Int) (la lb cy : Bool) : stF cp0 (memP a la b lb cy) 5 = (fpS_5 a b la lb cy, memP a la b lb cy) := stF_read (v := a) (b := la) (fp_4 a b la lb cy) (fpa_4 a b 0 (pbV 0 1 cy) la lb cy) rfl 128 (by kernel_rfl) (by kernel_rfl) (fpt_4 a b 0 (pbV 0 1 cy) la lb cy)
theorem fp_6 (a b : Int) (la lb cy : Bool) : stF cp0 (memP a la b lb cy) 6 = (fpS_6 a b la lb cy, memP a la b lb cy) := stF_read (v := 101) (b := false) (fp_5 a b la lb cy) (fpa_5 a b a (fpP1 a cy) la lb cy) rfl 3 (by kernel_rfl) (by kernel_rfl) (fpt_5 a b a (fpP1 a cy) la lb cy)
theorem fp_7 (a b : Int) (la lb cy : Bool) : stF cp0 (memP a la b lb cy) 7 = (fpS_7 a b la lb cy, memP a la b lb cy) := stF_read (v := 129) (b := false) (fp_6 a b la lb cy) (fpa_6 a b a (fpP1 a cy) la lb cy) rfl 4 (by kernel_rfl) (by kernel_rfl) (fpt_6 a b a (fpP1 a cy) la lb cy)
theorem fp_8 (a b : Int) (la lb cy : Bool) : stF cp0 (memP a la b lb cy) 8 = (fpS_8 a b la lb cy, memP a la b lb cy) := stF_read (v := b) (b := lb) (fp_7 a b la lb cy) (fpa_7 a b a (fpP1 a cy) la lb cy) rfl 129 (by kernel_rfl) (by kernel_rfl) (fpt_7 a b a (fpP1 a cy) la lb cy)
theorem fp_9 (a b : Int) (la lb cy : Bool) : stF cp0 (memP a la b lb cy) 9 = (fpS_9 a b la lb cy, memP a la b lb cy) := stF_read (v := 133) (b := false) (fp_8 a b la lb cy) (fpa_8 a b (fpX a b cy) (fpP2 a b cy) la lb cy) rfl 5 (by kernel_rfl) (by kernel_rfl) (fpt_8 a b (fpX a b cy) (fpP2 a b cy) la lb cy)
theorem fp_10 (a b : Int) (la lb cy : Bool) : stF cp0 (memP a la b lb cy) 10 = (fpS_10 a b la lb cy, memP a la b lb cy) := stF_read (v := 130) (b := false) (fp_9 a b la lb cy) (fpa_9 a b (fpX a b cy) (fpP2 a b cy) la lb cy) rfl 6 (by kernel_rfl) (by kernel_rfl) (fpt_9 a b (fpX a b cy) (fpP2 a b cy) la lb cy)
theorem fp_11 (a b : Int) (la lb cy : Bool) : stF cp0 (memP a la b lb cy) 11 = (fpS_11 a b la lb cy, (memP a la b lb cy).set 130 (fpX a b cy, abB la lb)) := stF_write (B := ⟨130, true, (fpX a b cy), (abB la lb), false⟩) (fp_10 a b la lb cy) (fpa_10 a b (fpX a b cy) (fpP2 a b cy) la lb cy) rfl 130 (by kernel_rfl) (of_decide_eq_true (by kernel_rfl)) (fpt_10 a b (fpX a b cy) (fpP2 a b cy) la lb cy)
theorem fp_12 (a b : Int) (la lb cy : Bool) : stF cp0 (memP a la b lb cy) 12 = (fpS_12 a b la lb cy, (memP a la b lb cy).set 130 (fpX a b cy, abB la lb)) := stF_read (v := 169) (b := false) (fp_11 a b la lb cy) (fpa_11 a b (fpX a b cy) (fpP2 a b cy) la lb cy) rfl 7 (by kernel_rfl) (by kernel_rfl) (fpt_11 a b (fpX a b cy) (fpP2 a b cy) la lb cy)
theorem fp_13 (a b : Int) (la lb cy : Bool) : stF cp0 (memP a la b lb cy) 13 = (fpS_13 a b la lb cy, (memP a la b lb cy).set 130 (fpX a b cy, abB la lb)) := stF_read (v := 0) (b := false) (fp_12 a b la lb cy) (fpa_12 a b (fpX a b cy) (fpP2 a b cy) la lb cy) rfl 8 (by kernel_rfl) (by kernel_rfl) (fpt_12 a b (fpX a b cy) (fpP2 a b cy) la lb cy)
theorem fp_14 (a b : Int) (la lb cy : Bool) : stF cp0 (memP a la b lb cy) 14 = (fpS_14 a b la lb cy, (memP a la b lb cy).set 130 (fpX a b cy, abB la lb)) := stF_read (v := 105) (b := false) (fp_13 a b la lb cy) (fpa_13 a b 0 (fpP3 a b cy) la lb cy) rfl 9 (by kernel_rfl) (by kernel_rfl) (fpt_13 a b 0 (fpP3 a b cy) la lb cy)
theorem fp_15 (a b : Int) (la lb cy : Bool) : stF cp0 (memP a la b lb cy) 15 = (fpS_15 a b la lb cy, (memP a la b lb cy).set 130 (fpX a b cy, abB la lb)) := stF_read (v := 0) (b := false) (fp_14 a b la lb cy) (fpa_14 a b 0 (fpP3 a b cy) la lb cy) rfl 10 (by kernel_rfl) (by kernel_rfl) (fpt_14 a b 0 (fpP3 a b cy) la lb cy)
theorem fp_16 (a b : Int) (la lb cy : Bool) : stF cp0 (memP a la b lb cy) 16 = (fpS_16 a b la lb cy, (memP a la b lb cy).set 130 (fpX a b cy, abB la lb)) := stF_read (v := 133) (b := false) (fp_15 a b la lb cy) (fpa_15 a b (fpY a b cy) (fpP4 a b cy) la lb cy) rfl 11 (by kernel_rfl) (by kernel_rfl) (fpt_15 a b (fpY a b cy) (fpP4 a b cy) la lb cy)
theorem fp_17 (a b : Int) (la lb cy : Bool) : stF cp0 (memP a la b lb cy) 17 = (fpS_17 a b la lb cy, (memP a la b lb cy).set 130 (fpX a b cy, abB la lb)) := stF_read (v := 131) (b := false) (fp_16 a b la lb cy) (fpa_16 a b (fpY a b cy) (fpP4 a b cy) la lb cy) rfl 12 (by kernel_rfl) (by kernel_rfl) (fpt_16 a b (fpY a b cy) (fpP4 a b cy) la lb cy)
theorem fp_18 (a b : Int) (la lb cy : Bool) : stF cp0 (memP a la b lb cy) 18 = (fpS_18 a b la lb cy, ((memP a la b lb cy).set 130 (fpX a b cy, abB la lb)).set 131 (fpY a b cy, abD la lb)) := stF_write (B := ⟨131, true, (fpY a b cy), (abD la lb), false⟩) (fp_17 a b la lb cy) (fpa_17 a b (fpY a b cy) (fpP4 a b cy) la lb cy) rfl 131 (by kernel_rfl) (of_decide_eq_true (by kernel_rfl)) (fpt_17 a b (fpY a b cy) (fpP4 a b cy) la lb cy)
theorem fp_19 (a b : Int) (la lb cy : Bool) : stF cp0 (memP a la b lb cy) 19 = (fpS_19 a b la lb cy, ((memP a la b lb cy).set 130 (fpX a b cy, abB la lb)).set 131 (fpY a b cy, abD la lb)) := stF_read (v := 2) (b := false) (fp_18 a b la lb cy) (fpa_18 a b (fpY a b cy) (fpP4 a b cy) la lb cy) rfl 13 (by kernel_rfl) (by kernel_rfl) (fpt_18 a b (fpY a b cy) (fpP4 a b cy) la lb cy)
theorem fp_20 (a b : Int) (la lb cy : Bool) : stF cp0 (memP a la b lb cy) 20 = (fpS_20 a b la lb cy, ((memP a la b lb cy).set 130 (fpX a b cy, abB la lb)).set 131 (fpY a b cy, abD la lb)) := stF_read (v := 0) (b := false) (fp_19 a b la lb cy) (fpa_19 a b (fpY a b cy) (fpP4 a b cy) la lb cy) rfl 255 (by kernel_rfl) (by kernel_rfl) (fpt_19 a b (fpY a b cy) (fpP4 a b cy) la lb cy)
/-- It ends with its twentieth cycle. -/
theorem fp_ends (a b : Int) (la lb cy : Bool) (k : Nat) (h : EndsF 200 cp0 (memP a la b lb cy) k) : k = 20 := by
  have hj : ∀ j, 0 < j → j < 20 → (stF cp0 (memP a la b lb cy) j).1.jam = false := by
    intro j h0 h1
    have hc : j = 1 ∨ j = 2 ∨ j = 3 ∨ j = 4 ∨ j = 5 ∨ j = 6 ∨ j = 7 ∨ j = 8 ∨ j = 9 ∨ j = 10 ∨ j = 11 ∨ j = 12 ∨ j = 13 ∨ j = 14 ∨ j = 15 ∨ j = 16 ∨ j = 17 ∨ j = 18 ∨ j = 19 := by omega
    rcases hc with rfl | rfl | rfl | rfl | rfl | rfl | rfl | rfl | rfl | rfl | rfl | rfl | rfl | rfl | rfl | rfl | rfl | rfl | rfl
    · rw [fp_1]; rfl
    · rw [fp_2]; rfl
    · rw [fp_3]; rfl
    · rw [fp_4]; rfl
    · rw [fp_5]; rfl
    · rw [fp_6]; rfl
    · rw [fp_7]; rfl
    · rw [fp_8]; rfl
    · rw [fp_9]; rfl
    · rw [fp_10]; rfl
    · rw [fp_11]; rfl
    · rw [fp_12]; rfl
    · rw [fp_13]; rfl
    · rw [fp_14]; rfl
    · rw [fp_15]; rfl
    · rw [fp_16]; rfl
    · rw [fp_17]; rfl
    · rw [fp_18]; rfl
    · rw [fp_19]; rfl
  have h20 : (stF cp0 (memP a la b lb cy) 20).1.jam = true := by rw [fp_20]; rfl
  obtain ⟨h1, h2, h3⟩ := h
  have g1 : ¬ 20 < k := fun e => by
    rw [h2 20 (by omega) e] at h20
    cases h20
  rcases h3 with h3 | ⟨h3, h4⟩
  · omega
  · by_cases e : k < 20
    · rw [hj k h3 e] at h4
      cases h4
    · omega
/-- What it comes to. -/
theorem fpX_sum (a b : Int) (cy : Bool) : fpX a b cy = (a + b + oneI cy) % 256 := by
  unfold fpX fpP1 adcV cI
  rw [has_nz, has_put]
theorem fpY_car (a b : Int) (cy : Bool) (a0 : 0 ≤ a) (a1 : a < 256) (b0 : 0 ≤ b) (b1 : b < 256) : fpY a b cy = (a + b + oneI cy) / 256 := by
  have e1 : cI (fpP1 a cy) = oneI cy := by unfold fpP1 cI; rw [has_nz, has_put]
  have e2 : cI (fpP3 a b cy) = oneI (decide (256 ≤ a + b + oneI cy)) := by
    unfold fpP3 cI
    rw [has_nz]
    unfold fpP2
    rw [e1]
    unfold adcP
    rw [has_nz, has_over _ 64 _ (by decide), has_put]
  unfold fpY adcV
  rw [e2]
  have := oneI_two cy
  by_cases h : 256 ≤ a + b + oneI cy
  · rw [decide_eq_true h]
    show (0 + 0 + 1) % 256 = _
    omega
  · rw [decide_eq_false h]
    show (0 + 0 + 0) % 256 = _
    omega
end Go.Proofs.YtbonamhinnhlnaaGreatDoor
namespace Go.Proofs.YtbonamhinnhlnaaGreatDoor
open Go.RowKit
attribute [local go_sem] Oper.semAt_some
set_option linter.unusedSimpArgs false
set_option linter.unusedVariables false
set_option maxRecDepth 20000

abbrev encF (c : Cp) (l : List (Int × Bool)) (k : Nat) : Array Value := #[.agg #[.int .u16 (tellF c l k).ad, .bool (tellF c l k).wr, .int .u8 (tellF c l k).v, .bool (tellF c l k).vb, .bool (tellF c l k).sc]]
theorem Mem.keepsFrom {A A' : World} {R g B : Nat} {L : List (Nat × Array Value)} (h : Mem A.heap.size [R, g] A A' L) (hR : R < B) (hg : g < B) : KeepsFrom B A A' :=
  ⟨h.size, fun k o hB hk _ => by
    have hlt : k < A.heap.size := (Array.getElem?_eq_some_iff.1 hk).1
    rw [h.block k hlt (by simp only [List.mem_cons, List.not_mem_nil, or_false]; omega)]
    exact hk⟩
set_option maxHeartbeats 8000000 in
theorem cycles_in (c : Cp) (l : List (Int × Bool)) (N n R g cap Bn Bp B : Nat) (F : Fit c) (ok : okB c = true) (om : okM l) (hN : l.length = N) (hN0 : 0 < N) (hN1 : N ≤ 65536) (hn : n ≤ 100000) (i : PlayIn R g Bn Bp B)
    (J Jx : Nat → World → Prop) (hJ : ∀ k A A', J k A → Mem A.heap.size [R, g] A A' [] → J k A') (m : Nat) (hm : 1 ≤ m) :
    IterW Fence.wide m Tryz.prog 32 #[.pointer (some ⟨Bn, 0, none⟩), .pointer (some ⟨Bp, 0, none⟩)] (encF c l) B
      (fun k W => PlayAt c l R g N cap Bn Bp n k W ∧ J k W) (fun k W => (k < n ∧ ∀ j, 0 < j → j ≤ k → (stF c l j).1.jam = false) ∧ PlayAt c l R g N cap Bn Bp n (k + 1) W ∧ J k W) (fun k W => PlayAt c l R g N cap Bn Bp n k W ∧ Jx k W) (EndsF n c l) := by
  intro lY Rec RecX W hRec hY h0 r0
  show CallsIn _ _ _ _ #[.func (.yield lY) #[] #[], .pointer (some ⟨Bn, 0, none⟩), .pointer (some ⟨Bp, 0, none⟩)] W _
  obtain ⟨hP, hj0⟩ := h0
  have cn : W.cell? ⟨Bn, 0, none⟩ = some (.int .i64 (n : Int)) := by
    obtain ⟨T, e⟩ := hP.bn
    exact cell_of_row W Bn 0 _ T _ e
  have HREC := Lib.hid hRec
  have HY := Lib.hid hY
  have HJ := Lib.hid hJ
  have HP := Lib.hid hP
  have HJ0 := Lib.hid hj0
  have HR0 := Lib.hid r0
  have II := Lib.hid i
  have OKS := Lib.hid (stF_ok F ok om (by omega : 0 < l.length))
  clear hRec hY hJ hP hj0 r0 i F ok om
  refine callsIn_of_wp Tryz.func32 rfl trivial ?_ rfl
  simp only [Tryz.ntmps32, List.size_toArray, List.length_cons, List.length_nil, Nat.reduceAdd, Nat.reduceSub, Array.replicate_succ, Array.replicate_zero, List.push_toArray, List.append_toArray, List.nil_append, List.cons_append]
  gi_wp2
  gi_loopw [5] (fun x wr => ∃ k : Nat, k ≤ n ∧ x = .int .i64 (k : Int) ∧ Hid (∀ j, 0 < j → j ≤ k → (stF c l j).1.jam = false) ∧ Hid (PlayAt c l R g N cap Bn Bp n k wr) ∧ Hid (J k wr) ∧ Hid (Rec wr))
    (fun x _ => n - (intOf x).toNat)
  case atStart => exact ⟨0, Nat.zero_le _, rfl, fun j h1 h2 => absurd h1 (by omega), HP, HJ0, HR0⟩
  case round =>
    obtain ⟨k, hk, rfl, hjam, hPk, hJk, hRk⟩ := hrel
    by_cases hlt : k < n
    · have ip := II.out
      obtain ⟨T1, e1⟩ := hPk.out.play
      obtain ⟨cs, T2, e2, hG⟩ := hPk.out.row
      obtain ⟨T4, e4⟩ := hPk.out.bp
      have cp : wr.cell? ⟨Bp, 0, none⟩ = some (.pointer (some ⟨R, 0, none⟩)) := cell_of_row wr Bp 0 _ T4 _ e4
      obtain ⟨o1, o2, o3, o4⟩ := OKS.out k
      have QY := Lib.hid (cycle_wide (stF c l k).1 (stF c l k).2 N false false false o2 o1 o3 (o4.trans hN) hN0 hN1 R g cap cs hG T1 T2 wr hPk.out.glob ip.ro ip.go e1 e2 ip.rg)
      clear e1 e2 e4 hG o1 o2 o3 o4 cn
      have KF := Lib.hid (fun w2 M (h : Mem wr.heap.size [R, g] wr w2 M) => h.keepsFrom ip.r ip.gb)
      gi_wp2_with fail
      refine ⟨trivial, ?_⟩
      refine (callsIn_wide.2 QY.out).mono ?_
      rintro e w2 ⟨cs', rfl, hG', hM⟩
      have hP2 : PlayAt c l R g N cap Bn Bp n (k + 1) w2 := by
        obtain ⟨T5, e5⟩ := hM.get (i := 0) rfl
        obtain ⟨T6, e6⟩ := hM.get (i := 1) rfl
        obtain ⟨T7, e7⟩ := hPk.out.bn
        obtain ⟨T8, e8⟩ := hPk.out.bp
        refine ⟨⟨T5, e5⟩, ⟨cs', T6, e6, hG'⟩, ⟨T7, ?_⟩, ⟨T8, ?_⟩, hPk.out.glob.two ip.ro ip.go hM⟩
        · rw [hM.block _ (Array.getElem?_eq_some_iff.1 e7).1 (by simp only [List.mem_cons, List.not_mem_nil, or_false]; have := ip.nr; have := ip.ng; omega)]
          exact e7
        · rw [hM.block _ (Array.getElem?_eq_some_iff.1 e8).1 (by simp only [List.mem_cons, List.not_mem_nil, or_false]; have := ip.pr; have := ip.pg; omega)]
          exact e8
      have hJ2 := HJ.out k wr w2 hJk.out (hM.sub (List.nil_sublist _))
      have hR2 := HREC.out wr w2 hRk.out (KF.out _ _ hM)
      obtain ⟨fn, tmps, assign, body, hy, hRd⟩ := HY.out k w2 ⟨⟨hlt, hjam.out⟩, hP2, hJ2⟩ hR2
      replace hy : (Instr.yield lY #[.agg (bsC (toldM (stF c l k).1 (stF c l k).2))]).run Tryz.prog w2 = .ok (.round lY fn tmps assign body) w2 := hy
      have HRD := Lib.hid hRd
      clear hRd hP2 hJ2 hR2 hG' hM QY KF cp
      gi_wp2_with fail
      refine HRD.out.mono ?_
      clear hy HRD
      rintro e W3 (⟨rfl, ⟨hP3, hJ3⟩, hR3⟩ | ⟨rfl, ⟨hP3, hX3⟩, hR3⟩)
      · obtain ⟨T5, e5⟩ := hP3.play
        obtain ⟨T8, e8⟩ := hP3.bp
        have cp3 : W3.cell? ⟨Bp, 0, none⟩ = some (.pointer (some ⟨R, 0, none⟩)) := cell_of_row W3 Bp 0 _ T8 _ e8
        have cj3 : W3.cell? ⟨R, 24, none⟩ = some (.bool (stF c l (k + 1)).1.jam) := cell_of_row W3 R 24 _ T5 _ e5
        have HP3 := Lib.hid hP3
        have HJ3 := Lib.hid hJ3
        have HR3 := Lib.hid hR3
        clear hP3 hJ3 hR3 e5 e8
        cases hj : (stF c l (k + 1)).1.jam with
        | true =>
          rw [hj] at cj3
          have hE : EndsF n c l (k + 1) := ⟨by omega, fun j h1 h2 => hjam.out j h1 (by omega), .inr ⟨by omega, hj⟩⟩
          have HE := Lib.hid hE
          clear hE hj
          gi_wp2
          exact ⟨rfl, _, results_none rfl _ _ _, ⟨_, rfl⟩, .inl ⟨_, HE.out, ⟨HP3.out, HJ3.out⟩, HR3.out⟩⟩
        | false =>
          rw [hj] at cj3
          have Hj := Lib.hid hj
          clear hj
          gi_wp2
          go_roundw
          case rel => exact ⟨k + 1, by omega, by go_num, fun j h1 h2 => by
            by_cases e : j = k + 1
            · rw [e]; exact Hj.out
            · exact hjam.out j h1 (by omega), HP3, HJ3, HR3⟩
          case measure => simp [intOf]; omega
      · have HP3 := Lib.hid hP3
        have HX3 := Lib.hid hX3
        have HR3 := Lib.hid hR3
        clear hP3 hX3 hR3
        gi_wp2
        exact ⟨rfl, _, results_none rfl _ _ _, ⟨_, rfl⟩, .inr ⟨_, ⟨HP3.out, HX3.out⟩, HR3.out⟩⟩
    · obtain rfl : k = n := by omega
      gi_wp2
      exact ⟨rfl, _, results_none rfl _ _ _, ⟨_, rfl⟩, .inl ⟨_, ⟨Nat.le_refl _, fun j h1 h2 => hjam.out j h1 (by omega), .inl rfl⟩, ⟨hPk.out, hJk.out⟩, hRk.out⟩⟩
end Go.Proofs.YtbonamhinnhlnaaGreatDoor
