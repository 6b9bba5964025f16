/-
  What is asked in layer 8's statements, as cells: flags, two bytes, bits, and whether it is a brk; and a pair. Over this seat's translation.
-/
import Derived.Test.YtckfjiacnjjopaaOpn
namespace Go.Proofs.Ytckfjiacnjjopaa
open Go.ChangeShapes Go.WideShapes Go.ChangeAt Go.RowKit

/-- What is asked: flags p and their labels s, a byte a x, a byte m y, bits b, whether it is a brk. -/
structure Ak where
  p : Int
  s : Int
  a : Int
  x : Bool
  m : Int
  y : Bool
  b : Int
  k : Bool
structure AkOk (q : Ak) : Prop where
  p0 : 0 ≤ q.p
  p1 : q.p < 256
  s0 : 0 ≤ q.s
  s1 : q.s < 256
  a0 : 0 ≤ q.a
  a1 : q.a < 256
  m0 : 0 ≤ q.m
  m1 : q.m < 256
  b0 : 0 ≤ q.b
  b1 : q.b < 256
def akL (q : Ak) : List Value := [.int .u8 q.p, .int .u8 q.s, .int .u8 q.a, .bool q.x, .int .u8 q.m, .bool q.y, .int .u8 q.b, .bool q.k]
def akC (q : Ak) : Array Value := #[.int .u8 q.p, .int .u8 q.s, .int .u8 q.a, .bool q.x, .int .u8 q.m, .bool q.y, .int .u8 q.b, .bool q.k]
def apC (q : Ak) (a m p : Int) : Array Value := #[.int .u8 q.p, .int .u8 q.s, .int .u8 q.a, .bool q.x, .int .u8 q.m, .bool q.y, .int .u8 q.b, .bool q.k, .int .u8 a, .int .u8 m, .int .u8 p]
theorem c_flags : Try.prog.cellsOf 23 = 2 := by kernel_rfl
theorem c_aask : Try.prog.cellsOf 27 = 8 := by kernel_rfl
theorem c_apair : Try.prog.cellsOf 41 = 11 := by kernel_rfl
section
variable {H : Type} {enc : TypeId × Value → H} {w : World} {base : Nat} {spare : Nat → Bool} {held : Bool}
/-- Flags' two cells. -/
theorem open_flags {fuel : Nat} {cs : List Value} {x : DataW H × List MemPlace} (hl : cs.length = 2) (h : DataW.trod enc Try.prog w base spare held fuel 23 cs = some x) : ∃ p s : Int, cs = [.int .u8 p, .int .u8 s] ∧ (0 ≤ p ∧ p < 256) ∧ (0 ≤ s ∧ s < 256) := by
  match cs, hl with
  | [c0, c1], _ =>
    obtain ⟨n0, y0, h0⟩ := open_field Try.underlying23 h 0 rfl 5 0 1 rfl rfl c_u8
    obtain ⟨n1, y1, h1⟩ := open_field Try.underlying23 h 1 rfl 5 1 1 rfl rfl c_u8
    obtain ⟨p, hp, bp⟩ := open_u8 h0
    obtain ⟨s, hs, bs⟩ := open_u8 h1
    simp at hp hs
    exact ⟨p, s, by rw [hp, hs], bp, bs⟩
theorem ask_cells {fuel : Nat} {cs : List Value} {x : DataW H × List MemPlace} (hl : cs.length = 8) (h : DataW.trod enc Try.prog w base spare held fuel 27 cs = some x) : ∃ q : Ak, cs = akL q ∧ AkOk q := by
  match cs, hl with
  | [c0, c1, c2, c3, c4, c5, c6, c7], _ =>
    obtain ⟨n0, y0, h0⟩ := open_field Try.underlying27 h 0 rfl 23 0 2 rfl rfl c_flags
    obtain ⟨n1, y1, h1⟩ := open_field Try.underlying27 h 1 rfl 25 2 2 rfl rfl c_byte
    obtain ⟨n2, y2, h2⟩ := open_field Try.underlying27 h 2 rfl 25 4 2 rfl rfl c_byte
    obtain ⟨n3, y3, h3⟩ := open_field Try.underlying27 h 3 rfl 5 6 1 rfl rfl c_u8
    obtain ⟨n4, y4, h4⟩ := open_field Try.underlying27 h 4 rfl 4 7 1 rfl rfl c_bool
    obtain ⟨p, s, e0, bp, bs⟩ := open_flags rfl h0
    obtain ⟨a, x, e1, ba⟩ := open_byte rfl h1
    obtain ⟨m, y, e2, bm⟩ := open_byte rfl h2
    obtain ⟨b, e3, bb⟩ := open_u8 h3
    obtain ⟨k, e4⟩ := open_boolc h4
    simp at e0 e1 e2 e3 e4
    exact ⟨⟨p, s, a, x, m, y, b, k⟩, by unfold akL; rw [e0.1, e0.2, e1.1, e1.2, e2.1, e2.2, e3, e4], ⟨bp.1, bp.2, bs.1, bs.2, ba.1, ba.2, bm.1, bm.2, bb.1, bb.2⟩⟩
theorem open_aask {r : Reach} {b0 : Nat} {v : Value} {d : DataW H} {p : List MemPlace} (hv : Value.okWide Try.prog w r b0 27 v) (h : DataW.Trod enc Try.prog w base spare held 27 v d p) :
    ∃ q : Ak, v = .agg (akC q) ∧ AkOk q := by
  obtain ⟨cs, fuel, x, rfl, hl, hf⟩ := open_cells Try.underlying27 hv h
  rw [c_aask] at hl
  obtain ⟨q, e, ok⟩ := ask_cells hl hf
  exact ⟨q, by rw [e]; rfl, ok⟩
theorem open_apair {r : Reach} {b0 : Nat} {v : Value} {d : DataW H} {p : List MemPlace} (hv : Value.okWide Try.prog w r b0 41 v) (h : DataW.Trod enc Try.prog w base spare held 41 v d p) :
    ∃ (q : Ak) (a m p : Int), v = .agg (apC q a m p) ∧ AkOk q ∧ (0 ≤ a ∧ a < 256) ∧ (0 ≤ m ∧ m < 256) ∧ (0 ≤ p ∧ p < 256) := by
  obtain ⟨cs, fuel, x, rfl, hl, hf⟩ := open_cells Try.underlying41 hv h
  rw [c_apair] at hl
  match cs, hl with
  | [c0, c1, c2, c3, c4, c5, c6, c7, c8, c9, c10], _ =>
    obtain ⟨n0, y0, h0⟩ := open_field Try.underlying41 hf 0 rfl 27 0 8 rfl rfl c_aask
    obtain ⟨n1, y1, h1⟩ := open_field Try.underlying41 hf 1 rfl 5 8 1 rfl rfl c_u8
    obtain ⟨n2, y2, h2⟩ := open_field Try.underlying41 hf 2 rfl 5 9 1 rfl rfl c_u8
    obtain ⟨n3, y3, h3⟩ := open_field Try.underlying41 hf 3 rfl 5 10 1 rfl rfl c_u8
    obtain ⟨q, e0, ok⟩ := ask_cells rfl h0
    obtain ⟨a, e1, ba⟩ := open_u8 h1
    obtain ⟨m, e2, bm⟩ := open_u8 h2
    obtain ⟨p, e3, bp⟩ := open_u8 h3
    unfold akL at e0
    simp at e0 e1 e2 e3
    obtain ⟨g0, g1, g2, g3, g4, g5, g6, g7⟩ := e0
    exact ⟨q, a, m, p, by rw [g0, g1, g2, g3, g4, g5, g6, g7, e1, e2, e3]; rfl, ok, ba, bm, bp⟩
end
end Go.Proofs.Ytckfjiacnjjopaa
