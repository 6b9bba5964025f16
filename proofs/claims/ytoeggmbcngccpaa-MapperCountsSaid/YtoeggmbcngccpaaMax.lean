/-
  What is asked in layer 6's statements, cell by cell; package mapper's Write of any kind. Over this seat's translation.
-/
import Derived.Test.YtoeggmbcngccpaaMaw
namespace Go.Proofs.Ytoeggmbcngccpaa
open Go.RowKit
set_option linter.unusedSimpArgs false
set_option linter.unusedVariables false

def crtL (c : Crt) : List Value := [.int .i64 c.m, .int .i64 c.s, .int .i64 c.p, .int .i64 c.k, .bool c.b, .bool c.f, .bool c.v, .bool c.t, .bool c.o]
def tailL (a v u : Int) (b : Bool) : List Value := [.int .u16 a, .int .u8 v, .int .i64 u, .bool b]
def askC (c : Crt) (m : Mp) (a v u : Int) (b : Bool) : Array Value := (crtL c ++ (mpC m).toList ++ tailL a v u b).toArray
theorem ask_part (c : Crt) (m : Mp) (a v u : Int) (b : Bool) (j : Nat) (x : Value) (h : (mpC m)[j]? = some x) : (askC c m a v u b)[9 + j]? = some x := by
  have hl : (crtL c).length = 9 := rfl
  have hj : j < 27 := by
    have := (Array.getElem?_eq_some_iff.1 h).1
    exact this
  unfold askC
  rw [List.getElem?_toArray, List.append_assoc, List.getElem?_append_right (by omega), hl, show 9 + j - 9 = j by omega, List.getElem?_append_left (by show j < 27; exact hj)]
  simpa using h
def WriteP (w : World) (m : Mp) (e : Ending) (w' : World) : Prop := ∃ cs, e = .returned (.tuple #[.agg cs, .int .i64 0]) ∧ Mpish cs ∧ (m.k = 0 → cs = mpC m) ∧ (m.k = 2 ∨ m.k = 3 ∨ m.k = 7 → ∃ x, cs = mpC { m with bk := x }) ∧ Below w.heap.size w w'
theorem mapOk_of {m : Mp} (h : mayB m = true) : m.k = 0 ∨ m.k = 1 ∨ m.k = 2 ∨ m.k = 3 ∨ m.k = 4 ∨ m.k = 7 := by
  unfold mayB at h
  simp only [Bool.and_eq_true] at h
  exact mapOk_iff.1 h.1.1.1.1.1.1.1.1
theorem mwrite_any (m : Mp) (a v u : Int) (w : World) (hm : mayB m = true) (ok : MpOk m) (a0 : 0 ≤ a) (a1 : a < 65536) (v0 : 0 ≤ v) (v1 : v < 256) : Calls Try.prog 8 #[.agg (mpC m), .int .u16 a, .int .u8 v, .int .i64 u] w (WriteP w m) := by
  by_cases hl : a < 32768
  · exact (mwrite_low m a v u w hm hl).mono fun e w' ⟨h, hb⟩ => ⟨_, h, mpish _, fun _ => rfl, fun _ => ⟨m.bk, rfl⟩, hb⟩
  · have hl : 32768 ≤ a := by omega
    rcases mapOk_of hm with hk | hk | hk | hk | hk | hk
    · exact (mwrite_0 m a v u w hm hl hk).mono fun e w' ⟨h, hb⟩ => ⟨_, h, mpish _, fun _ => rfl, fun _ => ⟨m.bk, rfl⟩, hb⟩
    · cases he : (u == wrap64 (m.la + 1))
      · exact (mwrite_1 m a v u w hm ok hl a1 v0 v1 hk he).mono fun e w' ⟨h, hb⟩ => ⟨_, h, mpish _, fun h => by omega, fun h => by omega, hb⟩
      · exact (mwrite_1b m a v u w hm hl hk he).mono fun e w' ⟨h, hb⟩ => ⟨_, h, mpish _, fun h => by omega, fun h => by omega, hb⟩
    · exact (mwrite_bank m a v u w hm hl (.inl hk)).mono fun e w' ⟨h, hb⟩ => ⟨_, h, mpish _, fun h => by omega, fun _ => ⟨v, rfl⟩, hb⟩
    · exact (mwrite_bank m a v u w hm hl (.inr (.inl hk))).mono fun e w' ⟨h, hb⟩ => ⟨_, h, mpish _, fun h => by omega, fun _ => ⟨v, rfl⟩, hb⟩
    · exact (mwrite_4 m a v u w hm hl a1 hk ok.se).mono fun e w' ⟨cs, h, hI, _, hb⟩ => ⟨cs, h, hI, fun h => by omega, fun h => by omega, hb⟩
    · exact (mwrite_bank m a v u w hm hl (.inr (.inr hk))).mono fun e w' ⟨h, hb⟩ => ⟨_, h, mpish _, fun h => by omega, fun _ => ⟨v, rfl⟩, hb⟩
end Go.Proofs.Ytoeggmbcngccpaa
