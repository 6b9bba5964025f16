/-
  Package bits' Reverse8, package sprite's Unit. Over this seat's translation; no condition. (Written by gen_sp.py.)
-/
import Derived.Test.YtphnpahjofacfabSpg
namespace Go.Proofs.Ytphnpahjofacfab
open Go.RowKit Go.Sort
set_option linter.unusedSimpArgs false
set_option linter.unusedVariables false
set_option maxRecDepth 20000

theorem alloc_unit (w : World) : (Instr.alloc 51 true (.tuple #[])).run Try.prog w = .ok (.pointer (some ⟨w.heap.size, 0, none⟩)) (w.alloc (.cells (unC un0) 51)) := by kernel_rfl
theorem build_unit0 (w : World) : (Instr.build 51 #[]).run Try.prog w = .ok (.agg (unC un0)) w := by kernel_rfl
def Un.set (u : Un) (off : Nat) (x : BitVec 8) : Option Un := match off with
  | 1 => some { u with lo := x }
  | 2 => some { u with hi := x }
  | _ => none
theorem un_I {u u' : Un} {off : Nat} {n : Int} {x : BitVec 8} (hn : n = w8 x) (h : u.set off x = some u') : (splice (unC u).toList off (Value.cells (.int .u8 n)).toList).toArray = unC u' := by
  subst hn
  unfold Un.set at h
  split at h <;> first | (cases h; done) | (injection h with h; subst h; rfl)
/-- The cells of a row of six bytes that was appended to, of any room. -/
def cs6 (l : List (Int × Bool)) (cap : Nat) : Array Value := (l.flatMap bcs).toArray ++ Builtin.zeroCells (Value.agg #[.int .u8 0, .bool false]).cells (cap - 6)
theorem cs6_at (l : List (Int × Bool)) (cap : Nat) (j : Nat) (u : Value) (h : (l.flatMap bcs)[j]? = some u) : (cs6 l cap)[j]? = some u := by
  have hj : j < (l.flatMap bcs).length := (List.getElem?_eq_some_iff.1 h).1
  unfold cs6
  rw [Array.getElem?_append_left (by simpa using hj)]
  simpa using h
theorem Sb.olds {w : World} {b o : Nat} {y t k x : Int} {ys ts ks xs : Bool} (h : Sb w b o y t k x ys ts ks xs) (j : Nat) (v : Value) (hj : ([(y, ys), (t, ts), (k, ks), (x, xs)].flatMap bcs)[j]? = some v) : w.cell? ((⟨b, o, none⟩ : Addr).add j) = some v := by
  rw [addr_add]
  match j with
  | 0 => simp [bcs] at hj; subst hj; exact h.y0
  | 1 => simp [bcs] at hj; subst hj; exact h.y1
  | 2 => simp [bcs] at hj; subst hj; exact h.t0
  | 3 => simp [bcs] at hj; subst hj; exact h.t1
  | 4 => simp [bcs] at hj; subst hj; exact h.k0
  | 5 => simp [bcs] at hj; subst hj; exact h.k1
  | 6 => simp [bcs] at hj; subst hj; exact h.x0
  | 7 => simp [bcs] at hj; subst hj; exact h.x1
  | n + 8 => simp [bcs] at hj
theorem app_unit {w : World} {b o R : Nat} {y t k x lo hi : Int} {ys ts ks xs ls hs : Bool} {T : TypeId} (ty : TypeId) (h : Sb w b o y t k x ys ts ks xs) (hR : w.heap[R]? = some (.cells #[.int .u8 lo, .bool ls, .int .u8 hi, .bool hs] T)) :
    ∃ cap, 6 ≤ cap ∧ cap ≤ maxLen ∧ (Builtin.append_ #[24, 24] ty #[.slice (some ⟨b, o, none⟩) 4 4, .slice (some ⟨R, 0, none⟩) 2 2]).run Try.prog w =
      .ok (.slice (some ⟨w.heap.size, 0, none⟩) 6 cap) (w.drew.alloc (.cells (cs6 [(y, ys), (t, ts), (k, ks), (x, xs), (lo, ls), (hi, hs)] cap) 26)) := by
  obtain ⟨i0, z, hi0, hz0, hz1, hzc, hz2⟩ := kBS.inf
  have hz : z = .agg #[.int .u8 0, .bool false] := by
    obtain ⟨j, hj, he⟩ := Option.map_eq_some_iff.1 info_bs
    rw [hi0] at hj
    obtain rfl := Option.some.inj hj
    simp only [Prod.mk.injEq] at he
    rw [hz0] at he
    exact Option.some.inj he.1
  subst hz
  have hr := run_append_grow (P := Try.prog) w 24 ty 26 i0 _ kBS.sl hi0 hz0 ⟨b, o, none⟩ 4 4 ([(y, ys), (t, ts), (k, ks), (x, xs)].flatMap bcs) (by rw [hz1]; rfl) h.olds ⟨R, 0, none⟩ 2 2 ([(lo, ls), (hi, hs)].flatMap bcs) (by rw [hz1]; rfl)
    (fun j v hj => by rw [addr_add, Nat.zero_add, cell_of_row w R j _ T _ hR]; simpa [bcs] using hj) (by decide) (by decide) (growslice_fits (by decide) (by omega))
  refine ⟨grownCap w 6 4 26, grownCap_ge w 6 4 _, grownCap_le_maxLen w 6 4 _ (by unfold maxLen; decide), ?_⟩
  refine hr.trans ?_
  unfold cs6
  simp [bcs]
attribute [local irreducible] wpList
end Go.Proofs.Ytphnpahjofacfab
