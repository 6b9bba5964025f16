/-
  The laws' argument 'Three' opened to its twelve cells. Over this seat's translation; no condition.
-/
import Derived.Test.YtmpacpiopjahnaaOpn
namespace Go.Proofs.Ytmpacpiopjahnaa
open Go.ChangeShapes Go.WideShapes Go.ChangeAt Go.RowKit Go.Deep
section
variable {H : Type} {enc : TypeId × Value → H} {w : World} {base : Nat} {spare : Nat → Bool} {held : Bool}
theorem c_three : Try.prog.cellsOf 36 = 12 := by kernel_rfl
theorem c_int : Try.prog.cellsOf 3 = 1 := by kernel_rfl
theorem c_u16 : Try.prog.cellsOf 34 = 1 := by kernel_rfl
theorem open_int64 {fuel : Nat} {cs : List Value} {x : DataW H × List MemPlace} (h : DataW.trod enc Try.prog w base spare held fuel 3 cs = some x) : ∃ v : Int, cs = [.int .i64 v] ∧ (Lit.int .i64 v).wf = true := by
  obtain ⟨v, hv, _, hw⟩ := DataW.trod_int Try.underlying3 h
  exact ⟨v, hv, hw⟩
theorem open_u16 {fuel : Nat} {cs : List Value} {x : DataW H × List MemPlace} (h : DataW.trod enc Try.prog w base spare held fuel 34 cs = some x) : ∃ v : Int, cs = [.int .u16 v] ∧ 0 ≤ v ∧ v < 65536 := by
  obtain ⟨v, hv, _, hw⟩ := DataW.trod_int Try.underlying34 h
  have := bounds_u16 hw
  exact ⟨v, hv, by omega, by omega⟩
theorem open_three {r : Reach} {b0 : Nat} {v : Value} {d : DataW H} {p : List MemPlace} (hv : Value.okWide Try.prog w r b0 36 v) (h : DataW.Trod enc Try.prog w base spare held 36 v d p) :
    ∃ (a b c x y z i n : Int) (s t u o : Bool), v = .agg #[.int .u8 a, .bool s, .int .u8 b, .bool t, .int .u8 c, .bool u, .int .u8 x, .int .u8 y, .int .u8 z, .int .i64 i, .int .u16 n, .bool o] ∧ (0 ≤ a ∧ a < 256) ∧ (0 ≤ b ∧ b < 256) ∧ (0 ≤ c ∧ c < 256) ∧ (0 ≤ x ∧ x < 256) ∧ (0 ≤ y ∧ y < 256) ∧ (0 ≤ z ∧ z < 256) ∧ (Lit.int .i64 i).wf = true ∧ (0 ≤ n ∧ n < 65536) := by
  obtain ⟨cs, fuel, xx, rfl, hl, hf⟩ := open_cells Try.underlying36 hv h
  rw [c_three] at hl
  match cs, hl with
  | [c0, c1, c2, c3, c4, c5, c6, c7, c8, c9, c10, c11], _ =>
    obtain ⟨_, _, h0⟩ := open_field Try.underlying36 hf 0 rfl 24 0 2 rfl rfl c_byte
    obtain ⟨_, _, h1⟩ := open_field Try.underlying36 hf 1 rfl 24 2 2 rfl rfl c_byte
    obtain ⟨_, _, h2⟩ := open_field Try.underlying36 hf 2 rfl 24 4 2 rfl rfl c_byte
    obtain ⟨_, _, h3⟩ := open_field Try.underlying36 hf 3 rfl 5 6 1 rfl rfl c_u8
    obtain ⟨_, _, h4⟩ := open_field Try.underlying36 hf 4 rfl 5 7 1 rfl rfl c_u8
    obtain ⟨_, _, h5⟩ := open_field Try.underlying36 hf 5 rfl 5 8 1 rfl rfl c_u8
    obtain ⟨_, _, h6⟩ := open_field Try.underlying36 hf 6 rfl 3 9 1 rfl rfl c_int
    obtain ⟨_, _, h7⟩ := open_field Try.underlying36 hf 7 rfl 34 10 1 rfl rfl c_u16
    obtain ⟨_, _, h8⟩ := open_field Try.underlying36 hf 8 rfl 4 11 1 rfl rfl c_bool
    obtain ⟨a, s, e0, b0⟩ := open_byte rfl h0
    obtain ⟨b, t, e1, b1⟩ := open_byte rfl h1
    obtain ⟨c, u, e2, b2⟩ := open_byte rfl h2
    obtain ⟨x, e3, b3⟩ := open_u8 h3
    obtain ⟨y, e4, b4⟩ := open_u8 h4
    obtain ⟨z, e5, b5⟩ := open_u8 h5
    obtain ⟨i, e6, b6⟩ := open_int64 h6
    obtain ⟨n, e7, b7⟩ := open_u16 h7
    obtain ⟨o, e8⟩ := open_boolc h8
    simp at e0 e1 e2 e3 e4 e5 e6 e7 e8
    obtain ⟨rfl, rfl⟩ := e0
    obtain ⟨rfl, rfl⟩ := e1
    obtain ⟨rfl, rfl⟩ := e2
    subst e3 e4 e5 e6 e7 e8
    exact ⟨a, b, c, x, y, z, i, n, s, t, u, o, rfl, b0, b1, b2, b3, b4, b5, b6, b7⟩
end
end Go.Proofs.Ytmpacpiopjahnaa
