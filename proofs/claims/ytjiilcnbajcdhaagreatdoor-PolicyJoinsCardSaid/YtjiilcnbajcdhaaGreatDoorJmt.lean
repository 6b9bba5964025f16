/-
  What joining does to tidied ranges, without any world: in whatever order, with itself, with nothing, and what covers both covers the joined ones.
-/
import Derived.Test.YtjiilcnbajcdhaaGreatDoorMth
namespace Go.Proofs.YtjiilcnbajcdhaaGreatDoor

theorem jm_comm {a b T U : List (Int × Int)} (h : Tidied (a ++ b) T) (k : Tidied (b ++ a) U) : T = U :=
  h.uniq ⟨k.1, fun x => by rw [k.2, inB_append, inB_append, Bool.or_comm]⟩
theorem jm_self {a T : List (Int × Int)} (m : mayB 0 a = true) (h : Tidied (a ++ a) T) : T = a :=
  h.uniq ⟨m, fun x => by rw [inB_append, Bool.or_self]⟩
theorem jm_none {a T : List (Int × Int)} (m : mayB 0 a = true) (h : Tidied (a ++ []) T) : T = a := by
  rw [List.append_nil] at h
  exact h.uniq (Tidied.self m)
theorem jm_left {a b T U : List (Int × Int)} (h : Tidied (a ++ b) T) (k : Tidied (T ++ a) U) : U = T :=
  k.uniq ⟨h.1, fun x => by rw [inB_append, h.2, inB_append]; cases inB a x <;> simp⟩
theorem jm_right {a b T U : List (Int × Int)} (h : Tidied (a ++ b) T) (k : Tidied (T ++ b) U) : U = T :=
  k.uniq ⟨h.1, fun x => by rw [inB_append, h.2, inB_append]; cases inB a x <;> simp⟩
theorem jm_up {a b c T X : List (Int × Int)} (ha : Tidied (c ++ a) c) (hb : Tidied (c ++ b) c) (h : Tidied (a ++ b) T) (k : Tidied (c ++ T) X) : X = c :=
  k.uniq ⟨ha.1, fun x => by
    have e1 := ha.2 x
    have e2 := hb.2 x
    rw [inB_append] at e1 e2 ⊢
    rw [h.2, inB_append]
    clear ha hb h k
    revert e1 e2
    generalize inB c x = p
    generalize inB a x = q
    generalize inB b x = r
    cases p <;> cases q <;> cases r <;> decide⟩
theorem jm_may {a b T : List (Int × Int)} (h : Tidied (a ++ b) T) : mayB 0 T = true := h.1
end Go.Proofs.YtjiilcnbajcdhaaGreatDoor
