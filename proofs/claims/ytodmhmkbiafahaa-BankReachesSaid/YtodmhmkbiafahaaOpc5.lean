/-
  What came in as a cartridge, as its cells. Over this seat's translation.
-/
import Derived.Test.YtodmhmkbiafahaaOpn
import Derived.Test.YtodmhmkbiafahaaHca
namespace Go.Proofs.Ytodmhmkbiafahaa
open Go.ChangeShapes Go.WideShapes Go.ChangeAt Go.RowKit

theorem c_cart : Try.prog.cellsOf 49 = 9 := by kernel_rfl
theorem c_intc : Try.prog.cellsOf 3 = 1 := by kernel_rfl
section
variable {H : Type} {enc : TypeId × Value → H} {w : World} {base : Nat} {spare : Nat → Bool} {held : Bool}
/-- A cartridge's nine cells. -/
theorem cart_cells {fuel : Nat} {cs : List Value} {x : DataW H × List MemPlace} (hl : cs.length = 9) (hf : DataW.trod enc Try.prog w base spare held fuel 49 cs = some x) : ∃ c : Crt, Value.agg ⟨cs⟩ = crtV c := by
  match cs, hl with
  | [c0, c1, c2, c3, c4, c5, c6, c7, c8], _ =>
    obtain ⟨n0, y0, h0⟩ := open_field Try.underlying49 hf 0 rfl 3 0 1 rfl rfl c_intc
    obtain ⟨n1, y1, h1⟩ := open_field Try.underlying49 hf 1 rfl 3 1 1 rfl rfl c_intc
    obtain ⟨n2, y2, h2⟩ := open_field Try.underlying49 hf 2 rfl 3 2 1 rfl rfl c_intc
    obtain ⟨n3, y3, h3⟩ := open_field Try.underlying49 hf 3 rfl 3 3 1 rfl rfl c_intc
    obtain ⟨n4, y4, h4⟩ := open_field Try.underlying49 hf 4 rfl 4 4 1 rfl rfl c_bool
    obtain ⟨n5, y5, h5⟩ := open_field Try.underlying49 hf 5 rfl 4 5 1 rfl rfl c_bool
    obtain ⟨n6, y6, h6⟩ := open_field Try.underlying49 hf 6 rfl 4 6 1 rfl rfl c_bool
    obtain ⟨n7, y7, h7⟩ := open_field Try.underlying49 hf 7 rfl 4 7 1 rfl rfl c_bool
    obtain ⟨n8, y8, h8⟩ := open_field Try.underlying49 hf 8 rfl 4 8 1 rfl rfl c_bool
    obtain ⟨v0, e0, _⟩ := DataW.trod_int Try.underlying3 h0
    obtain ⟨v1, e1, _⟩ := DataW.trod_int Try.underlying3 h1
    obtain ⟨v2, e2, _⟩ := DataW.trod_int Try.underlying3 h2
    obtain ⟨v3, e3, _⟩ := DataW.trod_int Try.underlying3 h3
    obtain ⟨v4, e4⟩ := open_boolc h4
    obtain ⟨v5, e5⟩ := open_boolc h5
    obtain ⟨v6, e6⟩ := open_boolc h6
    obtain ⟨v7, e7⟩ := open_boolc h7
    obtain ⟨v8, e8⟩ := open_boolc h8
    simp at e0 e1 e2 e3 e4 e5 e6 e7 e8
    exact ⟨⟨v0, v1, v2, v3, v4, v5, v6, v7, v8⟩, by rw [e0, e1, e2, e3, e4, e5, e6, e7, e8]; rfl⟩
theorem open_cart {r : Reach} {b0 : Nat} {v : Value} {d : DataW H} {p : List MemPlace} (hv : Value.okWide Try.prog w r b0 49 v) (h : DataW.Trod enc Try.prog w base spare held 49 v d p) :
    ∃ c : Crt, v = crtV c := by
  obtain ⟨cs, fuel, x, rfl, hl, hf⟩ := open_cells Try.underlying49 hv h
  rw [c_cart] at hl
  exact cart_cells hl hf
end
end Go.Proofs.Ytodmhmkbiafahaa
