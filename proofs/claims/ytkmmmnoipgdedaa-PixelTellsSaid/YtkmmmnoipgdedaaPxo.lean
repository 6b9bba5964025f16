/-
  What is asked in layer 16's statements, and what came in as bytes, as cells. Over this seat's translation; no condition.
-/
import Derived.Test.YtkmmmnoipgdedaaOpn
import Derived.Test.YtkmmmnoipgdedaaPxm
namespace Go.Proofs.Ytkmmmnoipgdedaa
open Go.ChangeShapes Go.WideShapes Go.ChangeAt Go.RowKit Go.Deep

/-- What is asked: two dots, a mask, a place, a column, and two truths. -/
structure Pq where
  g : BitVec 8
  s : BitVec 8
  m : BitVec 8
  i : BitVec 8
  x : Int
  b : Bool
  l : Bool
def pqC (q : Pq) : Array Value := #[.int .u8 (w8 q.g), .int .u8 (w8 q.s), .int .u8 (w8 q.m), .int .u8 (w8 q.i), .int .i64 q.x, .bool q.b, .bool q.l]
theorem cpx_int : Try.prog.cellsOf 3 = 1 := by kernel_rfl
theorem cpx_ask : Try.prog.cellsOf 23 = 7 := by kernel_rfl
section
variable {H : Type} {enc : TypeId × Value → H} {w : World} {base : Nat} {spare : Nat → Bool} {held : Bool}
theorem open_pxi {fuel : Nat} {cs : List Value} {x : DataW H × List MemPlace} (h : DataW.trod enc Try.prog w base spare held fuel 3 cs = some x) : ∃ v : Int, cs = [.int .i64 v] ∧ -9223372036854775808 ≤ v ∧ v < 9223372036854775808 := by
  obtain ⟨v, e, _, b⟩ := DataW.trod_int Try.underlying3 h
  have := bounds_i64 b
  exact ⟨v, e, by omega, by omega⟩
theorem open_px8 {fuel : Nat} {cs : List Value} {x : DataW H × List MemPlace} (h : DataW.trod enc Try.prog w base spare held fuel 5 cs = some x) : ∃ v : BitVec 8, cs = [.int .u8 (w8 v)] := by
  obtain ⟨v, e, b⟩ := open_u8 h
  obtain ⟨z, rfl⟩ := w8_ex b.1 b.2
  exact ⟨z, e⟩
theorem open_pxv {r : Reach} {b0 : Nat} {v : Value} {d : DataW H} {p : List MemPlace} (hv : Value.okWide Try.prog w r b0 5 v) (h : DataW.Trod enc Try.prog w base spare held 5 v d p) : ∃ x : BitVec 8, v = .int .u8 (w8 x) := by
  obtain ⟨n, rfl, rfl, rfl, wn⟩ := open_int Try.underlying5 hv h
  have := bounds_u8 wn
  obtain ⟨z, rfl⟩ := w8_ex (n := n) (by omega) (by omega)
  exact ⟨z, rfl⟩
theorem open_pask {r : Reach} {b0 : Nat} {v : Value} {d : DataW H} {p : List MemPlace} (hv : Value.okWide Try.prog w r b0 23 v) (h : DataW.Trod enc Try.prog w base spare held 23 v d p) :
    ∃ q : Pq, v = .agg (pqC q) ∧ (-9223372036854775808 ≤ q.x ∧ q.x < 9223372036854775808) := by
  obtain ⟨cs, fuel, x, rfl, hl, hf⟩ := open_cells Try.underlying23 hv h
  rw [cpx_ask] at hl
  match cs, hl with
  | [c0, c1, c2, c3, c4, c5, c6], _ =>
    obtain ⟨n0, y0, h0⟩ := open_field Try.underlying23 hf 0 rfl 5 0 1 rfl rfl c_u8
    obtain ⟨n1, y1, h1⟩ := open_field Try.underlying23 hf 1 rfl 5 1 1 rfl rfl c_u8
    obtain ⟨n2, y2, h2⟩ := open_field Try.underlying23 hf 2 rfl 5 2 1 rfl rfl c_u8
    obtain ⟨n3, y3, h3⟩ := open_field Try.underlying23 hf 3 rfl 5 3 1 rfl rfl c_u8
    obtain ⟨n4, y4, h4⟩ := open_field Try.underlying23 hf 4 rfl 3 4 1 rfl rfl cpx_int
    obtain ⟨n5, y5, h5⟩ := open_field Try.underlying23 hf 5 rfl 4 5 1 rfl rfl c_bool
    obtain ⟨n6, y6, h6⟩ := open_field Try.underlying23 hf 6 rfl 4 6 1 rfl rfl c_bool
    obtain ⟨v0, e0⟩ := open_px8 h0
    obtain ⟨v1, e1⟩ := open_px8 h1
    obtain ⟨v2, e2⟩ := open_px8 h2
    obtain ⟨v3, e3⟩ := open_px8 h3
    obtain ⟨v4, e4, b4⟩ := open_pxi h4
    obtain ⟨v5, e5⟩ := open_boolc h5
    obtain ⟨v6, e6⟩ := open_boolc h6
    simp at e0 e1 e2 e3 e4 e5 e6
    exact ⟨⟨v0, v1, v2, v3, v4, v5, v6⟩, by rw [e0, e1, e2, e3, e4, e5, e6]; rfl, b4⟩
end
end Go.Proofs.Ytkmmmnoipgdedaa
