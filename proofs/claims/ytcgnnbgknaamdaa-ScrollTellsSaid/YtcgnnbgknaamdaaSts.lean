/-
  A statement that leaves its order open, reads other blocks and writes one that lay before, part by part, each write behind the one before ('m.x, m.y = o.x, o.y'): what each operation gives is settled, whatever the order. No condition on the program.
-/
import Derived.Test.YtcgnnbgknaamdaaSwp
namespace Go.Proofs.Ytcgnnbgknaamdaa
open Go.RowKit
set_option linter.unusedSimpArgs false
set_option linter.unusedVariables false

section
variable {n : Nat} {X : List Nat} {w0 w w1 : World} {L : List (Nat × Array Value)} {R b k : Nat} {D : Nat → Bool} {st : List Nat} {cs : Nat → Array Value}
/-- The writes are st, one behind the other; behind j of them block R holds cs j. -/
def WSt (n : Nat) (X : List Nat) (w0 : World) (st : List Nat) (R : Nat) (cs : Nat → Array Value) (L : List (Nat × Array Value)) (D : Nat → Bool) (_b : Nat) (w : World) : Prop :=
  ∃ j, j ≤ st.length ∧ (∀ i s, st[i]? = some s → D s = decide (i < j)) ∧ Mem n X w0 w ((R, cs j) :: L)
theorem WSt.start (h : Mem n X w0 w ((R, cs 0) :: L)) : WSt n X w0 st R cs L (fun _ => false) 0 { w with drawn := w.drawn + 1 } := ⟨0, Nat.zero_le _, fun i s _ => by simp, h.drew⟩
theorem WSt.base (h : WSt n X w0 st R cs L D b w) : Mem n X w0 w L := by
  obtain ⟨j, _, _, hM⟩ := h
  exact hM.sub (List.Sublist.cons _ (List.Sublist.refl _))
theorem WSt.keep (h : WSt n X w0 st R cs L D b w) (hk : st.contains k = false) : WSt n X w0 st R cs L (fun j => D j || j == k) b w := by
  obtain ⟨j, hj, hD, hM⟩ := h
  refine ⟨j, hj, fun i s hs => ?_, hM⟩
  have hne : s ≠ k := fun e => by
    subst e
    have : s ∈ st := List.mem_of_getElem? hs
    simp [this] at hk
  have e : (D s || s == k) = D s := by simp [hne]
  simp only [e]
  exact hD i s hs
/-- Write number i is the next one. -/
theorem WSt.at (h : WSt n X w0 st R cs L D b w) (i : Nat) (s : Nat) (hs : st[i]? = some s) (hd : D s = false) (hp : ∀ t, st[i - 1]? = some t → 0 < i → D t = true) : Mem n X w0 w ((R, cs i) :: L) := by
  obtain ⟨j, hj, hD, hM⟩ := h
  have h1 := hD i s hs
  rw [hd] at h1
  have h1 : ¬ i < j := by simpa using h1.symm
  have h2 : j = i := by
    rcases Nat.eq_zero_or_pos i with e | e
    · omega
    · have hi : i < st.length := (List.getElem?_eq_some_iff.1 hs).1
      obtain ⟨t, ht⟩ : ∃ t, st[i - 1]? = some t := ⟨_, List.getElem?_eq_getElem (by omega)⟩
      have h3 := hD (i - 1) t ht
      rw [hp t ht e] at h3
      have : i - 1 < j := by simpa using h3.symm
      omega
  rwa [h2] at hM
theorem WSt.put (h : WSt n X w0 st R cs L D b w) (i : Nat) (s : Nat) (hs : st[i]? = some s) (hd : D s = false) (hp : ∀ t, st[i - 1]? = some t → 0 < i → D t = true) (hn : st.Nodup) (hM : Mem n X w0 w1 ((R, cs (i + 1)) :: L)) : WSt n X w0 st R cs L (fun j => D j || j == s) b w1 := by
  obtain ⟨j, hj, hD, hM0⟩ := h
  have h1 := hD i s hs
  rw [hd] at h1
  have h1 : ¬ i < j := by simpa using h1.symm
  have hi : i < st.length := (List.getElem?_eq_some_iff.1 hs).1
  have h2 : j = i := by
    rcases Nat.eq_zero_or_pos i with e | e
    · omega
    · obtain ⟨t, ht⟩ : ∃ t, st[i - 1]? = some t := ⟨_, List.getElem?_eq_getElem (by omega)⟩
      have h3 := hD (i - 1) t ht
      rw [hp t ht e] at h3
      have : i - 1 < j := by simpa using h3.symm
      omega
  subst h2
  refine ⟨j + 1, by omega, fun i' s' hs' => ?_, hM⟩
  by_cases e : s' = s
  · subst e
    have : i' = j := by
      have hl' : i' < st.length := (List.getElem?_eq_some_iff.1 hs').1
      exact (List.getElem?_inj hl' hn).1 (hs'.trans hs.symm)
    subst this
    simp
  · have e1 : (D s' || s' == s) = D s' := by simp [e]
    simp only [e1]
    rw [hD i' s' hs']
    have hne : i' ≠ j := fun e2 => by
      subst e2
      rw [hs] at hs'
      exact e (Option.some.inj hs').symm
    by_cases h5 : i' < j
    · rw [decide_eq_true h5, decide_eq_true (by omega)]
    · rw [decide_eq_false h5, decide_eq_false (by omega)]
theorem WSt.done (h : WSt n X w0 st R cs L D b w) (i : Nat) (s : Nat) (hs : st[i]? = some s) (hl : i + 1 = st.length) (hd : D s = true) : Mem n X w0 w ((R, cs st.length) :: L) := by
  obtain ⟨j, hj, hD, hM⟩ := h
  have h1 := hD i s hs
  rw [hd] at h1
  have h1 : i < j := by simpa using h1.symm
  have h2 : j = st.length := by omega
  rwa [h2] at hM
end
end Go.Proofs.Ytcgnnbgknaamdaa
