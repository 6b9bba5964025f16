/-
  Several texts in one: what is read and written by the functions on the way to the statements. Conditions stand in each theorem.
-/
import Derived.Test.YtcgnnbgknaamdaaGreatDoorX32
import Derived.Test.YtcgnnbgknaamdaaGreatDoorX07
import Derived.Test.YtcgnnbgknaamdaaGreatDoorX08
import Derived.Test.YtcgnnbgknaamdaaGreatDoorX06
import Derived.Shelf.Abstract
import Derived.Test.YtcgnnbgknaamdaaGreatDoorX01
import Derived.Test.YtcgnnbgknaamdaaGreatDoorX02
namespace Go.Proofs.YtcgnnbgknaamdaaGreatDoor
open Go.RowKit
set_option linter.unusedSimpArgs false
set_option linter.unusedVariables false
set_option maxRecDepth 20000

def Cp.setB (c : Cp) (off : Nat) (b : Bool) : Option Cp := match off with
  | 1 => some { c with ab := b }
  | 3 => some { c with xb := b }
  | 5 => some { c with yb := b }
  | 7 => some { c with sb := b }
  | 11 => some { c with pcs := b }
  | 15 => some { c with ads := b }
  | 17 => some { c with db := b }
  | 18 => some { c with cr := b }
  | 20 => some { c with nmi := b }
  | 21 => some { c with got := b }
  | 23 => some { c with ctl := b }
  | 24 => some { c with jam := b }
  | _ => none
def Cp.setI (c : Cp) (off : Nat) (k : IntKind) (n : Int) : Option Cp := match off, k with
  | 0, .u8 => some { c with av := n }
  | 2, .u8 => some { c with xv := n }
  | 4, .u8 => some { c with yv := n }
  | 6, .u8 => some { c with sv := n }
  | 8, .u8 => some { c with p := n }
  | 9, .u8 => some { c with ps := n }
  | 10, .u16 => some { c with pc := n }
  | 12, .u8 => some { c with op := n }
  | 13, .i64 => some { c with t := n }
  | 14, .u16 => some { c with ad := n }
  | 16, .u8 => some { c with dv := n }
  | 19, .i64 => some { c with intr := n }
  | 22, .i64 => some { c with pend := n }
  | _, _ => none
attribute [local irreducible] wpList
end Go.Proofs.YtcgnnbgknaamdaaGreatDoor
namespace Go.Proofs.YtcgnnbgknaamdaaGreatDoor
set_option linter.unusedSimpArgs false
set_option linter.unusedVariables false

end Go.Proofs.YtcgnnbgknaamdaaGreatDoor
namespace Go.Proofs.YtcgnnbgknaamdaaGreatDoor
open Go.RowKit
set_option linter.unusedSimpArgs false
set_option linter.unusedVariables false
set_option maxRecDepth 20000

end Go.Proofs.YtcgnnbgknaamdaaGreatDoor
namespace Go.Proofs.YtcgnnbgknaamdaaGreatDoor
open Go.RowKit
set_option linter.unusedSimpArgs false
set_option linter.unusedVariables false
set_option maxRecDepth 20000

end Go.Proofs.YtcgnnbgknaamdaaGreatDoor
namespace Go.Proofs.YtcgnnbgknaamdaaGreatDoor
open Go.RowKit
set_option linter.unusedSimpArgs false
set_option linter.unusedVariables false
set_option maxRecDepth 20000

attribute [local irreducible] wpList
end Go.Proofs.YtcgnnbgknaamdaaGreatDoor
namespace Go.Proofs.YtcgnnbgknaamdaaGreatDoor
set_option linter.unusedSimpArgs false
set_option linter.unusedVariables false

/-- What is looked at. -/
structure In (c : Cp) (t op intr : Int) (m : Bool) (pc sv p : Int) : Prop where
  t : c.t = t
  op : c.op = op
  intr : c.intr = intr
  got : c.got = false
  nmi : c.nmi = m
  pc : c.pc = pc
  pcs : c.pcs = false
  sv : c.sv = sv
  sb : c.sb = false
  p : c.p = p
  ps : c.ps = 0
section
variable {c : Cp} {intr pc sv p : Int} {m : Bool}
end
end Go.Proofs.YtcgnnbgknaamdaaGreatDoor
namespace Go.Proofs.YtcgnnbgknaamdaaGreatDoor
open Go.RowKit
set_option linter.unusedSimpArgs false
set_option linter.unusedVariables false
set_option maxRecDepth 20000

theorem ret_tt {P : Program} {w : World} {a : Act} {fn : Func} {Rr : Ending → World → Prop} {q r : Tmp} (hf : fn.results = #[.tmp q, .tmp r]) (hd : a.defers = []) (v u : Value) (hq : a.tmps.getD q undef = v) (hr : a.tmps.getD r undef = u) (h : Rr (.returned (.tuple #[v, u])) w) : bodyPost P fn Rr .ret a w := by
  refine bodyPost_ret ?_ hd h
  have hq' : a.tmps[q]?.getD undef = v := by simpa using hq
  have hr' : a.tmps[r]?.getD undef = u := by simpa using hr
  simp [results, hf, hq', hr']
end Go.Proofs.YtcgnnbgknaamdaaGreatDoor
namespace Go.Proofs.YtcgnnbgknaamdaaGreatDoor
open Go.RowKit

/-! ### in one of them -/
end Go.Proofs.YtcgnnbgknaamdaaGreatDoor
namespace Go.Proofs.YtcgnnbgknaamdaaGreatDoor
open Go.RowKit

theorem Own.mono {w : World} {base base' g cap : Nat} {l : List (Int × Bool)} (h : Own w base g cap l) (hb : base' ≤ base) : Own w base' g cap l := by
  rcases h.2 with ⟨h0, _⟩ | ⟨g', cap', cur, hv, hb', r⟩
  · cases h0
  · exact ⟨h.1, .inr ⟨g', cap', cur, hv, Nat.le_trans hb hb', r⟩⟩
theorem flat_set : ∀ (l : List (Int × Bool)) (k : Nat) (v : Int) (s : Bool), k < l.length → ((flat l).set (k * 2) (.int .u8 v)).set (k * 2 + 1) (.bool s) = flat (l.set k (v, s))
  | [], k, _, _, h => by simp at h
  | p :: l, 0, v, s, _ => rfl
  | p :: l, k + 1, v, s, h => by
    have e1 : (k + 1) * 2 = k * 2 + 1 + 1 := by omega
    rw [e1]
    simp only [flat, List.set_cons_succ]
    rw [flat_set l k v s (by simpa using h)]
/-- A cell is stored. -/
theorem Own.stored {w : World} {base g cap : Nat} {l : List (Int × Bool)} (h : Own w base g cap l) (k : Nat) (v : Int) (s : Bool) (hk : k < l.length) :
    Own ((w.setCell ⟨g, k * 2, none⟩ (.int .u8 v)).setCell ⟨g, k * 2 + 1, none⟩ (.bool s)) base g cap (l.set k (v, s)) := by
  have h1 := (World.ownsRow.stored h (k * 2) (.int .u8 v)).1
  have h2 := (World.ownsRow.stored h1 (k * 2 + 1) (.bool s)).1
  unfold Own
  rw [List.length_set, ← flat_set l k v s hk]
  exact h2
/-- What Clone hands back: cells of its own, or nil. -/
def CloneP (l : List (Int × Bool)) (w : World) (e : Ending) (w' : World) : Prop :=
  Below w.heap.size w w' ∧ ((∃ g cap, e = .returned (.slice (some ⟨g, 0, none⟩) l.length cap) ∧ Own w' w.heap.size g cap l) ∨ (e = .returned (.slice none 0 0) ∧ l = []))
set_option maxHeartbeats 1000000 in
theorem clone_ct (sv : Value) (l : List (Int × Bool)) (w : World) (hr : Rd w sv l) (hn : l.length ≤ 100000) :
    Calls Tryz.prog 27 #[sv] w (CloneP l w) := by
  have hrd := hr
  obtain ⟨a, cap, rfl, hcap, hm, hr⟩ := hr
  have hnil := Lib.run_eql_slice_nil (P := Tryz.prog)
  cases a with
  | none =>
    obtain rfl : l = [] := by
      rcases hr with h | ⟨_, _, h, _⟩
      · exact h
      · cases h
    clear hr hrd
    go_enter Tryz.func27, Tryz.ntmps27
    go_wp2
    go_ret
    exact ⟨Below.refl _ _, .inr ⟨rfl, rfl⟩⟩
  | some a =>
    clear hr
    have o0 : Own (w.alloc (.cells #[] 23)) w.heap.size w.heap.size 0 [] := ⟨rfl, .inr ⟨w.heap.size, 0, #[], rfl, Nat.le_refl _, heap_alloc_new w _, by simp, by simp [maxLen], rfl, rfl⟩⟩
    have b0 : Below w.heap.size w (w.alloc (.cells #[] 23)) := (by repeat' (first | exact Below.refl _ _ | (refine Below.setCell ?_ (by first | (simp; done) | (simp; omega) | omega) _) | (refine Below.drew ?_) | (refine Below.drewN ?_ _) | (refine Below.alloc ?_ (by first | (simp; done) | (simp; omega) | omega) _)))
    obtain ⟨g1, c1, w1, r1, o1, _, b1⟩ := app_bytes (w.alloc (.cells #[] 23)) w.heap.size w.heap.size 0 [] l (.slice (some a) l.length cap) 29 o0 (hrd.below b0).src (by simp; omega) (by simp)
    rw [List.nil_append] at r1 o1
    have b1' := b0.trans b1
    clear o0 b0 b1 hrd
    have R1 := Lib.hid r1
    have O1 := Lib.hid o1
    clear r1 o1
    go_enter Tryz.func27, Tryz.ntmps27
    go_wp2_with (at_builtin; refine step_app (by rfl) _ _ _ _ rfl _ _ rfl rfl _ _ R1.out ?_)
    go_ret
    exact ⟨b1', .inl ⟨g1, c1, rfl, O1.out⟩⟩

end Go.Proofs.YtcgnnbgknaamdaaGreatDoor
namespace Go.Proofs.YtcgnnbgknaamdaaGreatDoor
open Go.RowKit
set_option linter.unusedSimpArgs false
set_option linter.unusedVariables false
set_option maxRecDepth 20000

/-- Bits that are set, counted in halves. -/
def on1 (x : Int) : Int := IntKind.u64.wrap (bits .and .u64 (x / 2) 6148914691236517205 + bits .and .u64 x 6148914691236517205)
def on2 (x : Int) : Int := IntKind.u64.wrap (bits .and .u64 (x / 4) 3689348814741910323 + bits .and .u64 x 3689348814741910323)
def on3 (x : Int) : Int := bits .and .u64 (IntKind.u64.wrap (x / 16 + x)) 1085102592571150095
def on4 (x : Int) : Int := IntKind.u64.wrap (x + x / 256)
def on5 (x : Int) : Int := IntKind.u64.wrap (x + x / 65536)
def on6 (x : Int) : Int := IntKind.u64.wrap (x + x / 4294967296)
def ones (n : Int) : Int := bits .and .i64 (wrap64 (on6 (on5 (on4 (on3 (on2 (on1 n))))))) 127
set_option maxHeartbeats 2000000 in
theorem ones64_ct (n : Int) (w : World) (h0 : 0 ≤ n) (h1 : n < 18446744073709551616) : Calls Tryz.prog 30 #[.int .u64 n] w fun e w' => e = .returned (.int .i64 (ones n)) ∧ Below w.heap.size w w' := by
  have H := Mem.start w
  go_enter Tryz.func30, Tryz.ntmps30
  go_wp2_with fail
  go_ret
  exact ⟨rfl, H.toBelow⟩
theorem ones_ct (n : Int) (w : World) (h0 : 0 ≤ n) (h1 : n < 18446744073709551616) : Calls Tryz.prog 21 #[.int .u64 n] w fun e w' => e = .returned (.int .i64 (ones n)) ∧ Below w.heap.size w w' := by
  have H := Mem.start w
  have Q := Lib.hid (fun wr => ones64_ct n wr h0 h1)
  generalize ones n = k at *
  go_enter Tryz.func21, Tryz.ntmps21
  go_wp2_with (first | (go_at_call 30; (with_reducible refine (Q.out _).mono ?_); rintro e w2 ⟨rfl, hB⟩; replace H := H.next hB; clear hB) | fail)
  go_ret
  exact ⟨rfl, H.toBelow⟩
/-- May memory of so many cells be? -/
def memB (n : Nat) : Bool := decide (256 ≤ n) && decide (n ≤ 65536) && (ones n == 1)
set_option maxHeartbeats 2000000 in
theorem fcheck_ct (sv : Value) (n : Nat) (w : World) (hs : ∃ a cap, sv = .slice a n cap) (hn : n ≤ 9223372036854775807) : Calls Tryz.prog 11 #[sv] w fun e w' => e = .returned (.int .i64 (if memB n then 0 else 1)) ∧ Below w.heap.size w w' := by
  obtain ⟨a, cap, rfl⟩ := hs
  have Q := Lib.hid (fun wr => ones_ct (n : Int) wr (by omega) (by omega))
  have H := Mem.start w
  have hm : memB n = (decide (256 ≤ n) && decide (n ≤ 65536) && (ones n == 1)) := rfl
  generalize ones n = k at *
  by_cases h0 : n < 256
  · have c0 : decide ((n : Int) < 256) = true := decide_eq_true (by omega)
    rw [show memB n = false by rw [hm, decide_eq_false (show ¬ 256 ≤ n by omega)]; rfl]
    clear hm
    go_enter Tryz.func11, Tryz.ntmps11
    go_wp2_with fail
    go_ret
    exact ⟨rfl, H.toBelow⟩
  · have c0 : decide ((n : Int) < 256) = false := decide_eq_false (by omega)
    by_cases h1 : 65536 < n
    · have c1 : decide (65536 < (n : Int)) = true := decide_eq_true (by omega)
      rw [show memB n = false by rw [hm, decide_eq_true (show 256 ≤ n by omega), decide_eq_false (show ¬ n ≤ 65536 by omega)]; rfl]
      clear hm
      go_enter Tryz.func11, Tryz.ntmps11
      go_wp2_with fail
      go_ret
      exact ⟨rfl, H.toBelow⟩
    · have c1 : decide (65536 < (n : Int)) = false := decide_eq_false (by omega)
      cases h2 : (k == 1)
      · have h3 : (k != 1) = true := by simpa using h2
        rw [show memB n = false by rw [hm, h2, Bool.and_false]]
        clear hm
        go_enter Tryz.func11, Tryz.ntmps11
        go_wp2_with (first | (go_at_call 21; (with_reducible refine (Q.out _).mono ?_); rintro e w2 ⟨rfl, hB⟩; replace H := H.next hB; clear hB) | fail)
        go_ret
        exact ⟨rfl, H.toBelow⟩
      · have h3 : (k != 1) = false := by simpa using h2
        rw [show memB n = true by rw [hm, h2, decide_eq_true (show 256 ≤ n by omega), decide_eq_true (show n ≤ 65536 by omega)]; rfl]
        clear hm
        go_enter Tryz.func11, Tryz.ntmps11
        go_wp2_with (first | (go_at_call 21; (with_reducible refine (Q.out _).mono ?_); rintro e w2 ⟨rfl, hB⟩; replace H := H.next hB; clear hB) | fail)
        go_ret
        exact ⟨rfl, H.toBelow⟩
end Go.Proofs.YtcgnnbgknaamdaaGreatDoor
