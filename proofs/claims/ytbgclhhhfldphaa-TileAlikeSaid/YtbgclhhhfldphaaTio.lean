/-
  What came in as a tile, and as what is asked in layer 14's statements, as cells. Over this seat's translation; no condition.
-/
import Derived.Test.YtbgclhhhfldphaaOpn
import Derived.Test.YtbgclhhhfldphaaTim
namespace Go.Proofs.Ytbgclhhhfldphaa
open Go.ChangeShapes Go.WideShapes Go.ChangeAt Go.RowKit Go.Deep

/-- What is asked: a tile, a row's two bytes, its colours, whether it is secret, and which dot. -/
structure Ta where
  t : Ti
  lo : BitVec 8
  ls : Bool
  hi : BitVec 8
  hs : Bool
  tint : BitVec 8
  s : Bool
  x : BitVec 8
def taC (q : Ta) : Array Value := #[.int .u16 (w16 q.t.lo), .int .u16 (w16 q.t.hi), .int .u16 (w16 q.t.one), .int .u16 (w16 q.t.two), .int .u16 (w16 q.t.s), .int .u8 (w8 q.lo), .bool q.ls, .int .u8 (w8 q.hi), .bool q.hs, .int .u8 (w8 q.tint), .bool q.s, .int .u8 (w8 q.x)]
theorem cti_u16 : Try.prog.cellsOf 22 = 1 := by kernel_rfl
theorem cti_tile : Try.prog.cellsOf 24 = 5 := by kernel_rfl
theorem cti_ask : Try.prog.cellsOf 28 = 12 := by kernel_rfl
theorem wfti_u16 {n : Int} (h : (Lit.int .u16 n).wf = true) : 0 ≤ n ∧ n < 65536 := by
  have := bounds_u16 h
  omega
section
variable {H : Type} {enc : TypeId × Value → H} {w : World} {base : Nat} {spare : Nat → Bool} {held : Bool}
theorem open_w16 {fuel : Nat} {cs : List Value} {x : DataW H × List MemPlace} (h : DataW.trod enc Try.prog w base spare held fuel 22 cs = some x) : ∃ v : BitVec 16, cs = [.int .u16 (w16 v)] := by
  obtain ⟨v, e, _, b⟩ := DataW.trod_int Try.underlying22 h
  have := wfti_u16 b
  obtain ⟨z, rfl⟩ := w16_ex this.1 this.2
  exact ⟨z, e⟩
theorem open_w8 {fuel : Nat} {cs : List Value} {x : DataW H × List MemPlace} (h : DataW.trod enc Try.prog w base spare held fuel 5 cs = some x) : ∃ v : BitVec 8, cs = [.int .u8 (w8 v)] := by
  obtain ⟨v, e, b⟩ := open_u8 h
  obtain ⟨z, rfl⟩ := w8_ex b.1 b.2
  exact ⟨z, e⟩
theorem open_bw {fuel : Nat} {cs : List Value} {x : DataW H × List MemPlace} (hl : cs.length = 2) (h : DataW.trod enc Try.prog w base spare held fuel 26 cs = some x) : ∃ (v : BitVec 8) (s : Bool), cs = [.int .u8 (w8 v), .bool s] := by
  obtain ⟨v, s, e, b⟩ := open_byte hl h
  obtain ⟨z, rfl⟩ := w8_ex b.1 b.2
  exact ⟨z, s, e⟩
theorem tile_cells {fuel : Nat} {cs : List Value} {x : DataW H × List MemPlace} (hl : cs.length = 5) (h : DataW.trod enc Try.prog w base spare held fuel 24 cs = some x) : ∃ t : Ti, cs = (tiC t).toList := by
  match cs, hl with
  | [c0, c1, c2, c3, c4], _ =>
    obtain ⟨n0, y0, h0⟩ := open_field Try.underlying24 h 0 rfl 22 0 1 rfl rfl cti_u16
    obtain ⟨n1, y1, h1⟩ := open_field Try.underlying24 h 1 rfl 22 1 1 rfl rfl cti_u16
    obtain ⟨n2, y2, h2⟩ := open_field Try.underlying24 h 2 rfl 22 2 1 rfl rfl cti_u16
    obtain ⟨n3, y3, h3⟩ := open_field Try.underlying24 h 3 rfl 22 3 1 rfl rfl cti_u16
    obtain ⟨n4, y4, h4⟩ := open_field Try.underlying24 h 4 rfl 22 4 1 rfl rfl cti_u16
    obtain ⟨v0, e0⟩ := open_w16 h0
    obtain ⟨v1, e1⟩ := open_w16 h1
    obtain ⟨v2, e2⟩ := open_w16 h2
    obtain ⟨v3, e3⟩ := open_w16 h3
    obtain ⟨v4, e4⟩ := open_w16 h4
    simp at e0 e1 e2 e3 e4
    exact ⟨⟨v0, v1, v2, v3, v4⟩, by rw [e0, e1, e2, e3, e4]; rfl⟩
theorem open_tile {r : Reach} {b0 : Nat} {v : Value} {d : DataW H} {p : List MemPlace} (hv : Value.okWide Try.prog w r b0 24 v) (h : DataW.Trod enc Try.prog w base spare held 24 v d p) :
    ∃ t : Ti, v = .agg (tiC t) := by
  obtain ⟨cs, fuel, x, rfl, hl, hf⟩ := open_cells Try.underlying24 hv h
  rw [cti_tile] at hl
  obtain ⟨t, e⟩ := tile_cells hl hf
  exact ⟨t, by rw [e]⟩
theorem open_task {r : Reach} {b0 : Nat} {v : Value} {d : DataW H} {p : List MemPlace} (hv : Value.okWide Try.prog w r b0 28 v) (h : DataW.Trod enc Try.prog w base spare held 28 v d p) :
    ∃ q : Ta, v = .agg (taC q) := by
  obtain ⟨cs, fuel, x, rfl, hl, hf⟩ := open_cells Try.underlying28 hv h
  rw [cti_ask] at hl
  match cs, hl with
  | [c0, c1, c2, c3, c4, c5, c6, c7, c8, c9, c10, c11], _ =>
    obtain ⟨n0, y0, h0⟩ := open_field Try.underlying28 hf 0 rfl 24 0 5 rfl rfl cti_tile
    obtain ⟨n1, y1, h1⟩ := open_field Try.underlying28 hf 1 rfl 26 5 2 rfl rfl c_byte
    obtain ⟨n2, y2, h2⟩ := open_field Try.underlying28 hf 2 rfl 26 7 2 rfl rfl c_byte
    obtain ⟨n3, y3, h3⟩ := open_field Try.underlying28 hf 3 rfl 5 9 1 rfl rfl c_u8
    obtain ⟨n4, y4, h4⟩ := open_field Try.underlying28 hf 4 rfl 4 10 1 rfl rfl c_bool
    obtain ⟨n5, y5, h5⟩ := open_field Try.underlying28 hf 5 rfl 5 11 1 rfl rfl c_u8
    obtain ⟨t, e0⟩ := tile_cells rfl h0
    obtain ⟨lo, ls, e1⟩ := open_bw rfl h1
    obtain ⟨hi, hs, e2⟩ := open_bw rfl h2
    obtain ⟨ti, e3⟩ := open_w8 h3
    obtain ⟨s, e4⟩ := open_boolc h4
    obtain ⟨x, e5⟩ := open_w8 h5
    unfold tiC at e0
    simp at e0 e1 e2 e3 e4 e5
    obtain ⟨g0, g1, g2, g3, g4⟩ := e0
    exact ⟨⟨t, lo, ls, hi, hs, ti, s, x⟩, by rw [g0, g1, g2, g3, g4, e1.1, e1.2, e2.1, e2.2, e3, e4, e5]; rfl⟩
end
end Go.Proofs.Ytbgclhhhfldphaa
