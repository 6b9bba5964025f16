/-
  'append' of bytes onto a slice that the law made itself: what comes back reads as both, and the slice itself still reads as it did. Over this seat's translation; the lengths together are at most 100000.
-/
import Derived.Test.YtdafilfnmdfacaaLbl
import Derived.Maps.AppendAt
import Derived.Deep.DeepAppendRoom
import Derived.Deep.AppendSrc
namespace Go.Proofs.Ytdafilfnmdfacaa
open Go.RowKit

/-- A list of bytes, cell by cell. -/
def flat : List (Int × Bool) → List Value
  | [] => []
  | p :: r => .int .u8 p.1 :: .bool p.2 :: flat r
theorem flat_length (l : List (Int × Bool)) : (flat l).length = l.length * 2 := by
  induction l with
  | nil => rfl
  | cons p r ih => simp only [flat, List.length_cons, ih]; omega
theorem flat_append (l m : List (Int × Bool)) : flat (l ++ m) = flat l ++ flat m := by
  induction l with
  | nil => rfl
  | cons p r ih => simp [flat, ih]
theorem flat_one (l : List (Int × Bool)) : ∀ u ∈ flat l, u.oneCell' = true := by
  induction l with
  | nil => intro u hu; cases hu
  | cons p r ih =>
    intro u hu
    simp only [flat, List.mem_cons] at hu
    rcases hu with rfl | rfl | hu
    · rfl
    · rfl
    · exact ih u hu
theorem flat_get (l : List (Int × Bool)) : ∀ k, k < l.length → (flat l)[k * 2]? = some (.int .u8 (nth l k).1) ∧ (flat l)[k * 2 + 1]? = some (.bool (nth l k).2) := by
  induction l with
  | nil => intro k hk; simp at hk
  | cons p r ih =>
    intro k hk
    cases k with
    | zero => simp [flat, nth]
    | succ k =>
      have e1 : (k + 1) * 2 = k * 2 + 1 + 1 := by omega
      have e2 : (k + 1) * 2 + 1 = k * 2 + 1 + 1 + 1 := by omega
      have e3 : nth (p :: r) (k + 1) = nth r k := by simp [nth]
      rw [e2, e1, flat, e3, List.getElem?_cons_succ, List.getElem?_cons_succ, List.getElem?_cons_succ, List.getElem?_cons_succ]
      exact ih k (by simpa using hk)
theorem flat_inv (l : List (Int × Bool)) (j : Nat) (u : Value) (h : (flat l)[j]? = some u) : ∃ k, k < l.length ∧ ((j = k * 2 ∧ u = .int .u8 (nth l k).1) ∨ (j = k * 2 + 1 ∧ u = .bool (nth l k).2)) := by
  have hj : j < (flat l).length := (List.getElem?_eq_some_iff.1 h).1
  rw [flat_length] at hj
  have hk : j / 2 < l.length := by omega
  obtain ⟨h1, h2⟩ := flat_get l (j / 2) hk
  refine ⟨j / 2, hk, ?_⟩
  rcases Nat.mod_two_eq_zero_or_one j with e | e
  · have ej : j = j / 2 * 2 := by omega
    rw [← ej] at h1
    exact .inl ⟨ej, by rw [h] at h1; exact Option.some.inj h1⟩
  · have ej : j = j / 2 * 2 + 1 := by omega
    rw [← ej] at h2
    exact .inr ⟨ej, by rw [h] at h2; exact Option.some.inj h2⟩

/-- What is appended. -/
def SrcR (w : World) (x : Value) (l : List (Int × Bool)) : Prop :=
  (∃ c, x = .slice none 0 c ∧ l = []) ∨ ∃ a c, x = .slice (some a) l.length c ∧ ∀ j u, (flat l)[j]? = some u → w.cell? (a.add j) = some u
theorem add_mk (b off j : Nat) : (⟨b, off, none⟩ : Addr).add j = ⟨b, off + j, none⟩ := by unfold Addr.add; split <;> simp_all
theorem Rd.src {w : World} {x : Value} {l : List (Int × Bool)} (h : Rd w x l) : SrcR w x l := by
  obtain ⟨a, cap, rfl, _, _, h⟩ := h
  rcases h with rfl | ⟨b, off, rfl, _, hc⟩
  · cases a with
    | none => exact .inl ⟨cap, rfl, rfl⟩
    | some a => exact .inr ⟨a, cap, rfl, fun j u hu => by simp [flat] at hu⟩
  · refine .inr ⟨_, cap, rfl, fun j u hu => ?_⟩
    obtain ⟨k, hk, h | h⟩ := flat_inv l j u hu
    · rw [h.1, h.2, add_mk]; exact (hc k hk).1
    · rw [h.1, h.2, add_mk]; exact (hc k hk).2

/-- One append of a region, by what it does. -/
theorem step_app {P : Program} {ops : Array Oper} {rest : List Oper} {o : Oper} {a : Act} {w : World} {Q : Exit → Act → World → Prop} (hw : Region.wanted o (yielded ops a.tmps) = true) (s x : Operand) (t1 t2 : TypeId)
    (ho : o.op = .call { callee := .builtin .append, args := #[s, x], argTypes := #[t1, t2] }) (V X : Value) (hs : a.eval s = V) (hx : a.eval x = X) (v' : Value) (w' : World)
    (hrun : (Builtin.append_ #[t1, t2] o.type #[V, X]).run P w = .ok v' w') (h : wpList P ops Q rest (a.put o.dst v') w') : wpList P ops Q (o :: rest) a w := by
  refine wpList_step fun K hK => ?_
  rw [if_pos hw]
  unfold Oper.wp
  simp [execOp, ho, resolve, invoke, builtin, hs, hx, hrun, Result.andThen]
  exact hK _ _ h
end Go.Proofs.Ytdafilfnmdfacaa
