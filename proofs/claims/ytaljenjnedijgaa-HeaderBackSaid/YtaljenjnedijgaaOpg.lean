/-
  What came in as a question on a header's beginning, or on its parts, as its cells. Over this seat's translation.
-/
import Derived.Test.YtaljenjnedijgaaOpn
import Derived.Test.YtaljenjnedijgaaOpc5
namespace Go.Proofs.Ytaljenjnedijgaa
open Go.ChangeShapes Go.WideShapes Go.ChangeAt Go.RowKit

theorem c_magic : Try.prog.cellsOf 39 = 4 := by kernel_rfl
theorem c_parts : Try.prog.cellsOf 33 = 12 := by kernel_rfl
theorem c_str5 : Try.prog.cellsOf 9 = 1 := by kernel_rfl
theorem c_u165 : Try.prog.cellsOf 37 = 1 := by kernel_rfl
theorem c_crt5 : Try.prog.cellsOf 23 = 9 := by kernel_rfl
section
variable {H : Type} {enc : TypeId × Value → H} {w : World} {base : Nat} {spare : Nat → Bool} {held : Bool}
theorem open_magic {r : Reach} {b0 : Nat} {v : Value} {d : DataW H} {p : List MemPlace} (hv : Value.okWide Try.prog w r b0 39 v) (h : DataW.Trod enc Try.prog w base spare held 39 v d p) :
    ∃ (b : ByteArray) (t x m : Int), v = .agg #[.string b, .int .u8 t, .int .u8 x, .int .u16 m] ∧ b.size ≤ maxLen ∧ (0 ≤ t ∧ t < 256) ∧ (0 ≤ x ∧ x < 256) ∧ (0 ≤ m ∧ m < 65536) := by
  obtain ⟨cs, fuel, x, rfl, hl, hf⟩ := open_cells Try.underlying39 hv h
  rw [c_magic] at hl
  match cs, hl with
  | [c0, c1, c2, c3], _ =>
    obtain ⟨n0, y0, h0⟩ := open_field Try.underlying39 hf 0 rfl 9 0 1 rfl rfl c_str5
    obtain ⟨n1, y1, h1⟩ := open_field Try.underlying39 hf 1 rfl 5 1 1 rfl rfl c_u8
    obtain ⟨n2, y2, h2⟩ := open_field Try.underlying39 hf 2 rfl 5 2 1 rfl rfl c_u8
    obtain ⟨n3, y3, h3⟩ := open_field Try.underlying39 hf 3 rfl 37 3 1 rfl rfl c_u165
    obtain ⟨s, e0, _, bs⟩ := DataW.trod_string Try.underlying9 h0
    obtain ⟨t, e1, b1⟩ := open_u8 h1
    obtain ⟨z, e2, b2⟩ := open_u8 h2
    obtain ⟨m, e3, _, b3⟩ := DataW.trod_int Try.underlying37 h3
    have b3' := bounds_u16 b3
    simp at e0 e1 e2 e3
    exact ⟨s, t, z, m, by rw [e0, e1, e2, e3], bs, b1, b2, ⟨by omega, by omega⟩⟩
def partC (c : Crt) (f l : Int) (b : ByteArray) : Array Value := #[.int .i64 c.m, .int .i64 c.s, .int .i64 c.p, .int .i64 c.k, .bool c.b, .bool c.f, .bool c.v, .bool c.t, .bool c.o, .int .u8 f, .int .u8 l, .string b]
theorem open_parts {r : Reach} {b0 : Nat} {v : Value} {d : DataW H} {p : List MemPlace} (hv : Value.okWide Try.prog w r b0 33 v) (h : DataW.Trod enc Try.prog w base spare held 33 v d p) :
    ∃ (c : Crt) (f l : Int) (b : ByteArray), v = .agg (partC c f l b) ∧ b.size ≤ maxLen ∧ (0 ≤ f ∧ f < 256) ∧ (0 ≤ l ∧ l < 256) := by
  obtain ⟨cs, fuel, x, rfl, hl, hf⟩ := open_cells Try.underlying33 hv h
  rw [c_parts] at hl
  match cs, hl with
  | [c0, c1, c2, c3, c4, c5, c6, c7, c8, c9, c10, c11], _ =>
    obtain ⟨n0, y0, h0⟩ := open_field Try.underlying33 hf 0 rfl 23 0 9 rfl rfl c_crt5
    obtain ⟨n1, y1, h1⟩ := open_field Try.underlying33 hf 1 rfl 5 9 1 rfl rfl c_u8
    obtain ⟨n2, y2, h2⟩ := open_field Try.underlying33 hf 2 rfl 5 10 1 rfl rfl c_u8
    obtain ⟨n3, y3, h3⟩ := open_field Try.underlying33 hf 3 rfl 9 11 1 rfl rfl c_str5
    obtain ⟨c, ec⟩ := cart_cells (by simp) h0
    obtain ⟨t, e1, b1⟩ := open_u8 h1
    obtain ⟨z, e2, b2⟩ := open_u8 h2
    obtain ⟨s, e3, _, bs⟩ := DataW.trod_string Try.underlying9 h3
    simp at e1 e2 e3
    have hc : [c0, c1, c2, c3, c4, c5, c6, c7, c8] = [.int .i64 c.m, .int .i64 c.s, .int .i64 c.p, .int .i64 c.k, .bool c.b, .bool c.f, .bool c.v, .bool c.t, .bool c.o] := by
      have := congrArg Value.cells ec
      simpa [Value.cells, crtV] using this
    simp only [List.cons.injEq, and_true] at hc
    obtain ⟨g0, g1, g2, g3, g4, g5, g6, g7, g8⟩ := hc
    exact ⟨c, t, z, s, by rw [g0, g1, g2, g3, g4, g5, g6, g7, g8, e1, e2, e3]; rfl, bs, b1, b2⟩
end
end Go.Proofs.Ytaljenjnedijgaa
