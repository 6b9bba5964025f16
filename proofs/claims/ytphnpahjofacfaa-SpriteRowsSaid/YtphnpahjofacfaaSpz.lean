/-
  Rows of bytes that a call has copied, rows of units that are built, and units turned about. Over this seat's translation; no condition.
-/
import Derived.Test.YtphnpahjofacfaaSlb
import Derived.Test.YtphnpahjofacfaaApp
import Derived.Test.YtphnpahjofacfaaSpu
namespace Go.Proofs.Ytphnpahjofacfaa
open Go.RowKit Go.Sort
set_option linter.unusedSimpArgs false
set_option linter.unusedVariables false
set_option maxRecDepth 20000

theorem flat_bcs (l : List (Int × Bool)) : flat l = l.flatMap bcs := by
  induction l with
  | nil => rfl
  | cons p l ih => simp only [flat, List.flatMap_cons, ih, bcs]; rfl
theorem rowS_own {w : World} {base g cap : Nat} {l : List (Int × Bool)} (h : Own w base g cap l) : ∃ cs, base ≤ g ∧ w.heap[g]? = some (.cells cs 24) ∧ RowG bcs 2 cs cap l := by
  rcases h.2 with ⟨h0, _⟩ | ⟨g', cap', cur, hv, hb, hg, hn, hm, hs, ht⟩
  · cases h0
  · injection hv with h1 h2 h3
    injection h1 with h1
    injection h1 with h1
    subst h1 h3
    refine ⟨cur, hb, hg, hs, hn, hm, fun j u hj => ?_⟩
    rw [← flat_bcs] at hj
    rw [← ht, List.getElem?_take] at hj
    split at hj
    · simpa using hj
    · cases hj
theorem own_none (w : World) : Own (w.alloc (.cells #[] 24)) w.heap.size w.heap.size 0 [] := ⟨rfl, .inr ⟨w.heap.size, 0, #[], rfl, Nat.le_refl _, heap_alloc_new w _, by simp, by simp [maxLen], rfl, rfl⟩⟩
/-- The cells of two units. -/
def unC2 (u v : Un) : Array Value := ⟨unL u ++ unL v⟩
theorem build_us1 (u : Un) (w : World) : (Instr.buildSlice 48 1 #[(0, .agg (unC u))]).run Try.prog w = .ok (.slice (some ⟨w.heap.size, 0, none⟩) 1 1) (w.alloc (.cells (unC u) 36)) := by kernel_rfl
theorem build_us2 (u v : Un) (w : World) : (Instr.buildSlice 48 2 #[(0, .agg (unC u)), (1, .agg (unC v))]).run Try.prog w = .ok (.slice (some ⟨w.heap.size, 0, none⟩) 2 2) (w.alloc (.cells (unC2 u v) 36)) := by kernel_rfl
section
variable {n : Nat} {X : List Nat} {w0 w : World} {L : List (Nat × Array Value)} {i R : Nat} {u v : Un}
theorem rdu_1 (H : Mem n X w0 w L) (hi : L[i]? = some (R, unC u)) : RdU w (.slice (some ⟨R, 0, none⟩) 1 1) [u] := by
  refine ⟨_, 1, rfl, by simp, by simp [maxLen], .inr ⟨R, 0, rfl, H.lt (List.mem_of_getElem? hi), fun k hk j x hx => ?_⟩⟩
  obtain rfl : k = 0 := by simp at hk; omega
  rw [show 0 + 0 * 7 + j = j by omega]
  exact H.cell hi (by simpa [unC, unAt] using hx)
theorem rdu_2 (H : Mem n X w0 w L) (hi : L[i]? = some (R, unC2 u v)) : RdU w (.slice (some ⟨R, 0, none⟩) 2 2) [u, v] := by
  refine ⟨_, 2, rfl, by simp, by simp [maxLen], .inr ⟨R, 0, rfl, H.lt (List.mem_of_getElem? hi), fun k hk j x hx => ?_⟩⟩
  have hl : ∀ u : Un, (unL u).length = 7 := fun u => rfl
  match k, hk with
  | 0, _ =>
    rw [show 0 + 0 * 7 + j = j by omega]
    have hj : j < 7 := by have := (List.getElem?_eq_some_iff.1 hx).1; rwa [hl] at this
    refine H.cell hi ?_
    unfold unC2
    rw [List.getElem?_toArray, List.getElem?_append_left (by rw [hl]; exact hj)]
    exact hx
  | 1, _ =>
    have hj : j < 7 := by have := (List.getElem?_eq_some_iff.1 hx).1; rwa [hl] at this
    rw [show 0 + 1 * 7 + j = 7 + j by omega]
    refine H.cell hi ?_
    unfold unC2
    rw [List.getElem?_toArray, List.getElem?_append_right (by rw [hl]; omega), hl, show 7 + j - 7 = j by omega]
    exact hx
end
/-- A unit, and the one turned about: dots. -/
theorem rev_bit (v : BitVec 8) (i : Nat) (h : i < 8) : v.reverse.getLsbD i = v.getLsbD (7 - i) := by
  have hh : ∀ v : BitVec 8, ∀ i : Fin 8, v.reverse.getLsbD i.val = v.getLsbD (7 - i.val) := by decide +kernel
  exact hh v ⟨i, h⟩
theorem dotX_at (u : Un) (i : Nat) (h : i < 8) : dotX u (w8 u.x + i) = dotK u i := by
  unfold dotX
  rw [if_pos (by omega)]
  congr 1
  omega
theorem dotX_out (u : Un) (x : Int) (h : x < w8 u.x ∨ w8 u.x + 7 < x) : dotX u x = 0 := by
  unfold dotX
  rw [if_neg (by omega)]
def pairU (x k1 k2 lo hi : BitVec 8) (s z : Bool) : Un × Un := (unitS x k1 s z lo hi, unitS x k2 s z lo hi)
theorem k_off (k : BitVec 8) : (k &&& 191#8).getLsbD 6 = false ∧ ((k &&& 191#8) ||| 64#8).getLsbD 6 = true ∧ ((k &&& 191#8) ||| 64#8) &&& 3#8 = (k &&& 191#8) &&& 3#8 ∧ ((k &&& 191#8) ||| 64#8).getLsbD 5 = (k &&& 191#8).getLsbD 5 := by
  have h : ∀ k : BitVec 8, (k &&& 191#8).getLsbD 6 = false ∧ ((k &&& 191#8) ||| 64#8).getLsbD 6 = true ∧ ((k &&& 191#8) ||| 64#8) &&& 3#8 = (k &&& 191#8) &&& 3#8 ∧ ((k &&& 191#8) ||| 64#8).getLsbD 5 = (k &&& 191#8).getLsbD 5 := by decide +kernel
  exact h k
theorem off_num (k : BitVec 8) : bits .andNot .u8 (w8 k) 64 = w8 (k &&& 191#8) := by
  have h : ∀ k : BitVec 8, bits .andNot .u8 (w8 k) 64 = w8 (k &&& 191#8) := by decide +kernel
  exact h k
theorem on_num (k : BitVec 8) : bits .or .u8 (w8 k) 64 = w8 (k ||| 64#8) := by
  rw [show (64 : Int) = w8 64#8 by decide, v8_or]
/-- What the law asks of the two, in a column of theirs. -/
theorem turned_in (x k lo hi : BitVec 8) (s z : Bool) (i : Nat) (h : i < 8) :
    seenU [unitS x ((k &&& 191#8) ||| 64#8) s z lo hi] (w8 x + 7 - i) = seenU [unitS x (k &&& 191#8) s z lo hi] (w8 x + i) ∧
    (0 < (seenU [unitS x (k &&& 191#8) s z lo hi] (w8 x + i)).1 → (seenU [unitS x (k &&& 191#8) s z lo hi, unitS x ((k &&& 191#8) ||| 64#8) s z lo hi] (w8 x + i)).1 = (seenU [unitS x (k &&& 191#8) s z lo hi] (w8 x + i)).1) := by
  obtain ⟨h1, h2, h3, h4⟩ := k_off k
  have e1 : dotX (unitS x (k &&& 191#8) s z lo hi) (w8 x + i) = b2i (lo.getLsbD (7 - i)) + 2 * b2i (hi.getLsbD (7 - i)) := by
    have := dotX_at (unitS x (k &&& 191#8) s z lo hi) i h
    rw [show (unitS x (k &&& 191#8) s z lo hi).x = x from rfl] at this
    rw [this]
    unfold dotK unitS turnB
    rw [h1]
    rfl
  have e2 : dotX (unitS x ((k &&& 191#8) ||| 64#8) s z lo hi) (w8 x + 7 - i) = b2i (lo.getLsbD (7 - i)) + 2 * b2i (hi.getLsbD (7 - i)) := by
    have := dotX_at (unitS x ((k &&& 191#8) ||| 64#8) s z lo hi) (7 - i) (by omega)
    rw [show (unitS x ((k &&& 191#8) ||| 64#8) s z lo hi).x = x from rfl, show w8 x + ((7 - i : Nat) : Int) = w8 x + 7 - i by omega] at this
    rw [this]
    unfold dotK unitS turnB
    rw [h2]
    show b2i (lo.reverse.getLsbD (7 - (7 - i))) + 2 * b2i (hi.reverse.getLsbD (7 - (7 - i))) = _
    rw [show 7 - (7 - i) = i by omega, rev_bit lo i h, rev_bit hi i h]
  constructor
  · simp only [seenU, e1, e2]
    unfold unitS
    rw [h3, h4]
  · intro hp
    by_cases hd : dotX (unitS x (k &&& 191#8) s z lo hi) (w8 x + i) = 0
    · simp only [seenU, if_pos hd] at hp
      omega
    · simp only [seenU, if_neg hd]
theorem turned_out (x k1 k2 lo hi : BitVec 8) (s z : Bool) (y : Int) (h : y < w8 x ∨ w8 x + 7 < y) : (seenU [unitS x k1 s z lo hi, unitS x k2 s z lo hi] y).1 = 0 := by
  have e1 := dotX_out (unitS x k1 s z lo hi) y h
  have e2 := dotX_out (unitS x k2 s z lo hi) y h
  simp only [seenU, if_pos e1, if_pos e2]
end Go.Proofs.Ytphnpahjofacfaa
