/-
  What came in as a Change, as its cells. Over this seat's translation.
-/
import Derived.Test.YtjiilcnbajcdhaaOpn
namespace Go.Proofs.Ytjiilcnbajcdhaa
open Go.ChangeShapes Go.WideShapes Go.ChangeAt Go.RowKit

theorem c_chg : Try.prog.cellsOf 50 = 3 := by kernel_rfl
theorem c_u16 : Try.prog.cellsOf 48 = 1 := by kernel_rfl
section
variable {H : Type} {enc : TypeId × Value → H} {w : World} {base : Nat} {spare : Nat → Bool} {held : Bool}
theorem open_change {r : Reach} {b0 : Nat} {v : Value} {d : DataW H} {p : List MemPlace} (hv : Value.okWide Try.prog w r b0 50 v) (h : DataW.Trod enc Try.prog w base spare held 50 v d p) :
    ∃ (i a b : Int), v = .agg #[.int .u8 i, .int .u16 a, .int .u8 b] ∧ (0 ≤ i ∧ i < 256) ∧ (0 ≤ a ∧ a < 65536) ∧ (0 ≤ b ∧ b < 256) := by
  obtain ⟨cs, fuel, x, rfl, hl, hf⟩ := open_cells Try.underlying50 hv h
  rw [c_chg] at hl
  match cs, hl with
  | [c0, c1, c2], _ =>
    obtain ⟨n0, y0, h0⟩ := open_field Try.underlying50 hf 0 rfl 5 0 1 rfl rfl c_u8
    obtain ⟨n1, y1, h1⟩ := open_field Try.underlying50 hf 1 rfl 48 1 1 rfl rfl c_u16
    obtain ⟨n2, y2, h2⟩ := open_field Try.underlying50 hf 2 rfl 5 2 1 rfl rfl c_u8
    obtain ⟨i, hi, hib⟩ := open_u8 h0
    obtain ⟨a, ha, _, hab⟩ := DataW.trod_int Try.underlying48 h1
    obtain ⟨b, hb, hbb⟩ := open_u8 h2
    have hau := bounds_u16 hab
    simp at hi ha hb
    exact ⟨i, a, b, by rw [hi, ha, hb], hib, ⟨by omega, by omega⟩, hbb⟩
end
end Go.Proofs.Ytjiilcnbajcdhaa
