/-
  The iterator that hands out ranges as far as they are places of n cells. Over this seat's translation; of ranges that may be.
-/
import Derived.Test.YtdafilfnmdfacaaJoi
namespace Go.Proofs.Ytdafilfnmdfacaa
open Go.RowKit Go.Shelf
attribute [local go_sem] Oper.semAt_some

/-- What lies below n₀, but for block g, lies as it lay. -/
def Keep (n₀ g : Nat) (A B : World) : Prop := A.heap.size ≤ B.heap.size ∧ ∀ b, b < n₀ → b ≠ g → B.heap[b]? = A.heap[b]?
theorem Keep.refl (n₀ g : Nat) (A : World) : Keep n₀ g A A := ⟨Nat.le_refl _, fun _ _ _ => rfl⟩
theorem Keep.trans {n₀ g : Nat} {A B C : World} (h : Keep n₀ g A B) (k : Keep n₀ g B C) : Keep n₀ g A C := ⟨Nat.le_trans h.1 k.1, fun b hb hg => (k.2 b hb hg).trans (h.2 b hb hg)⟩
theorem Keep.below {n₀ g : Nat} {A B C : World} (h : Keep n₀ g A B) (k : Below B.heap.size B C) (hn : n₀ ≤ B.heap.size) : Keep n₀ g A C := h.trans ⟨k.size, fun b hb _ => k.block b (by omega)⟩
theorem Keep.cell {n₀ g : Nat} {A B : World} (h : Keep n₀ g A B) {b o : Nat} (hb : b < n₀) (hg : b ≠ g) : B.cell? ⟨b, o, none⟩ = A.cell? ⟨b, o, none⟩ := by
  simp only [World.cell?, h.2 b hb hg]

/-- A range of places of n cells. -/
abbrev Clip (n : Nat) := { x : Int × Int // 0 ≤ x.1 ∧ x.1 ≤ x.2 ∧ x.2 < n }
def clips {n : Nat} (pre : List (Clip n)) : List (Int × Int) := pre.map (·.1)
theorem clips_snoc {n : Nat} (pre : List (Clip n)) (x : Clip n) : clips (pre ++ [x]) = clips pre ++ [x.1] := by simp [clips]
theorem rise_drop : ∀ (l : List (Int × Int)) (k : Nat) {m : Int}, Rise m l → Rise m (l.drop k)
  | [], k, _, _ => by simp [Rise]
  | r :: l, 0, _, h => h
  | r :: l, k + 1, m, ⟨h1, h2, h3⟩ => rise_mono _ (by omega) (rise_drop l k h3)
/-- Of ranges that rise the first ones that begin below n tell of the places below n. -/
theorem clip_end (d : List (Int × Int)) (k n : Nat) (hk : k < d.length) (hr : Rise 0 d) (hn : (n : Int) ≤ (nthR d k).1) (x : Int) (hx : x < n) : inB d x = inB (d.take k) x := by
  have e : d = d.take k ++ d.drop k := (List.take_append_drop k d).symm
  have hd := rise_drop d k hr
  rw [drop_cons' d k (0, 0) hk] at hd
  have : inB (d.drop k) x = false := by
    rw [drop_cons' d k (0, 0) hk, Bool.eq_false_iff]
    intro c
    have := rise_low (d.getD k (0, 0) :: d.drop (k + 1)) (m := (d.getD k (0, 0)).1) ⟨Int.le_refl _, hd.2.1, hd.2.2⟩ c
    change (n : Int) ≤ (d.getD k (0, 0)).1 at hn
    omega
  have h2 := congrArg (fun l => inB l x) e
  simp only [inB_append, this, Bool.or_false] at h2
  exact h2
theorem clip_step (d : List (Int × Int)) (k n : Nat) (pre : List (Clip n)) (hk : k < d.length) (h : ∀ x : Int, x < n → inB (clips pre) x = inB (d.take k) x) (y : Clip n) (hy : y.1 = ((nthR d k).1, min (nthR d k).2 ((n : Int) - 1))) (x : Int) (hx : x < n) :
    inB (clips (pre ++ [y])) x = inB (d.take (k + 1)) x := by
  rw [clips_snoc, take_snoc' d k (0, 0) hk, inB_append, inB_append, h x hx, inB_one, inB_one, hy]
  congr 1
  rw [Bool.eq_iff_iff, inR_iff, inR_iff]
  show ((nthR d k).1 ≤ x ∧ x ≤ min (nthR d k).2 ((n : Int) - 1)) ↔ ((nthR d k).1 ≤ x ∧ x ≤ (nthR d k).2)
  omega

end Go.Proofs.Ytdafilfnmdfacaa
