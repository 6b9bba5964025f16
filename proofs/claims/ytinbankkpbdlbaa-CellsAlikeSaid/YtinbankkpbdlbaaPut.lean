/-
  What came in as a Put, as its cells. Over this seat's translation.
-/
import Derived.Test.YtinbankkpbdlbaaOpn
namespace Go.Proofs.Ytinbankkpbdlbaa
open Go.ChangeShapes Go.WideShapes Go.ChangeAt Go.RowKit

theorem c_put : Try.prog.cellsOf 48 = 5 := by kernel_rfl
theorem c_int : Try.prog.cellsOf 3 = 1 := by kernel_rfl
section
variable {H : Type} {enc : TypeId × Value → H} {w : World} {base : Nat} {spare : Nat → Bool} {held : Bool}
theorem open_put {r : Reach} {b0 : Nat} {v : Value} {d : DataW H} {p : List MemPlace} (hv : Value.okWide Try.prog w r b0 48 v) (h : DataW.Trod enc Try.prog w base spare held 48 v d p) :
    ∃ (i b : Int) (s : Bool) (c : Int) (t : Bool), v = .agg #[.int .i64 i, .int .u8 b, .bool s, .int .u8 c, .bool t] := by
  obtain ⟨cs, fuel, x, rfl, hl, hf⟩ := open_cells Try.underlying48 hv h
  rw [c_put] at hl
  match cs, hl with
  | [c0, c1, c2, c3, c4], _ =>
    obtain ⟨n0, y0, h0⟩ := open_field Try.underlying48 hf 0 rfl 3 0 1 rfl rfl c_int
    obtain ⟨n1, y1, h1⟩ := open_field Try.underlying48 hf 1 rfl 41 1 2 rfl rfl c_byte
    obtain ⟨n2, y2, h2⟩ := open_field Try.underlying48 hf 2 rfl 41 3 2 rfl rfl c_byte
    obtain ⟨i, hi, _⟩ := DataW.trod_int Try.underlying3 h0
    obtain ⟨b, s, hb, _⟩ := open_byte rfl h1
    obtain ⟨c, t, hc, _⟩ := open_byte rfl h2
    simp at hi hb hc
    exact ⟨i, b, s, c, t, by rw [hi, hb.1, hb.2, hc.1, hc.2]⟩
end
end Go.Proofs.Ytinbankkpbdlbaa
